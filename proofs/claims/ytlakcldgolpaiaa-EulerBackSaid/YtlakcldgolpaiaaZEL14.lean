/-
  The walk of skeinref05.With.
-/
import Derived.Test.YtlakcldgolpaiaaZEL8
import Derived.Test.YtlakcldgolpaiaaAP
import Derived.Test.YtlakcldgolpaiaaZEL10
import Derived.Test.YtlakcldgolpaiaaZEC16
namespace Go.Proofs.Ytlakcldgolpaiaa
open Go.RowKit
set_option linter.unusedVariables false

/-- A number put into a list ahead of the first that is greater. -/
def insI (n : Int) : List Int → List Int
  | [] => [n]
  | x :: r => if n < x then n :: x :: r else x :: insI n r

theorem insI_cons (n x : Int) (r : List Int) : insI n (x :: r) = if n < x then n :: x :: r else x :: insI n r := rfl

def WitRel (w : World) (V : List Int) (x : Int) (n : Nat) (t d i : Value) (wr : World) : Prop :=
  ∃ (k : Nat) (q : Bool) (O : List Int), k ≤ n ∧ O.length ≤ 2 * k ∧ i = .int .i64 k ∧ d = .bool q ∧ Below w.heap.size w wr ∧ OK encI 1 3 wr w.heap.size t O ∧ O ++ (if q then V.drop k else insI x (V.drop k)) = insI x V
set_option maxRecDepth 100000 in
set_option maxHeartbeats 4000000 in
theorem With_any (v : Value) (V : List Int) (x : Int) (w : World) (B : Nat) (hv : RI w B v V) (hB : B ≤ w.heap.size) (hlen : V.length ≤ 100000) :
    Calls Try.prog 22 #[v, .int .i64 x] w fun e w' => ∃ v', e = .returned v' ∧ OK encI 1 3 w' w.heap.size v' (insI x V) ∧ Below w.heap.size w w' := by
  obtain ⟨A, c, rfl, hc1, hc2, hc3, HC⟩ := hv.open_
  clear hv
  obtain ⟨n, hn⟩ : ∃ n, n = V.length := ⟨_, rfl⟩
  rw [← hn] at hc1 hc3 hlen ⊢
  have HN := Lib.hid hn
  clear hn
  go_enter Try.func22, Try.ntmps22
  go_wp2
  go_loopw [5, 6, 7] (fun t d i wr => WitRel w V x n t d i wr) (fun _ _ i wr => n - (intOf i).toNat)
  case atStart =>
    refine ⟨0, false, [], Nat.zero_le _, by simp, rfl, rfl, (Below.refl _ _).alloc (Nat.le_refl _) _, ?_, rfl⟩
    exact ⟨by simp, World.ownsRow_lit w #[] 0 (by omega) (by decide) rfl⟩
  case round =>
    obtain ⟨k, q, O, hk, hol, rfl, rfl, hbel, ho, hins⟩ := hrel
    have HB := Lib.hid hbel
    have HO := Lib.hid ho
    have HI := Lib.hid hins
    have hz := hbel.size
    by_cases hlt : k < n
    · obtain ⟨b, o, rfl, hb, hx⟩ := HC.out k (by have := HN.out; omega)
      obtain ⟨y, hy⟩ : ∃ y, y = V[k]'(by have := HN.out; omega) := ⟨_, rfl⟩
      have hT : V.drop k = y :: V.drop (k + 1) := by rw [List.drop_eq_getElem_cons (by have := HN.out; omega), ← hy]
      rw [← hy] at hx
      have hx := cellI hx
      have HT := Lib.hid hT
      have HX0 := Lib.hid hx
      have hx := (hbel.cell (p := ⟨b, o + k, none⟩) (by show b < _; omega)).trans hx
      have HLo := Lib.hid HO.out.lt
      have hxy : (decide (x < y)) = (decide (x < y)) := rfl
      have HL := Lib.hid hol
      clear hy hT hbel ho hins hxy
      cases q with
      | true =>
        go_wp2_with (at_builtin; refine wpList_appE etInts encI_len encI_one (y := y) rfl (.tmp 29) (.tmp 34) rfl rfl (OK.alloc (w := wr) HO.out _) wr.heap.size rfl (oneI wr y _) (by have := HL.out; simp; omega) (by simp; omega) ?_; intro v5 w5 ho5 hg5 hb5; have HO5 := Lib.hid ho5; have HG5 := Lib.hid hg5; clear ho5 hg5 hb5)
        go_roundw
        case measure => simp [intOf]; omega
        case rel =>
          refine ⟨k + 1, true, O ++ [y], by omega, by simp; omega, by go_num, rfl, Below.grown (Below.alloc HB.out (by omega) _) HG5.out (by simp; omega) (fun q hq => (HLo.out q hq).1), HO5.out, ?_⟩
          have := HI.out
          rw [if_pos rfl, HT.out] at this
          rw [if_pos rfl, List.append_assoc]; exact this
      | false =>
        by_cases hxy : x < y
        · have hd := decide_eq_true hxy
          have HXY := Lib.hid hxy
          go_wp2_with (first | (at_builtin; refine wpList_appE etInts encI_len encI_one (y := x) rfl (.tmp 25) (.tmp 27) rfl rfl (OK.alloc (w := wr) HO.out _) wr.heap.size rfl (oneI wr x _) (by have := HL.out; simp; omega) (by simp; omega) ?_; intro v5 w5 ho5 hg5 hb5; have HO5 := Lib.hid ho5; have HG5 := Lib.hid hg5; clear ho5 hg5 hb5; have HB5 := Lib.hid (Below.grown (Below.alloc HB.out (by omega) _) HG5.out (by simp; omega) (fun q hq => (HLo.out q hq).1)); have hx := (HB5.out.cell (p := ⟨b, o + k, none⟩) (by show b < _; omega)).trans HX0.out; have HLo5 := Lib.hid HO5.out.lt; have hz5 := HB5.out.size) | (at_builtin; refine wpList_appE etInts encI_len encI_one (y := y) rfl (.tmp 29) (.tmp 34) rfl rfl (OK.alloc (w := w5) HO5.out _) w5.heap.size rfl (oneI w5 y _) (by have := HL.out; simp; omega) (by simp; omega) ?_; intro v6 w6 ho6 hg6 hb6; have HO6 := Lib.hid ho6; have HG6 := Lib.hid hg6; clear ho6 hg6 hb6))
          go_roundw
          case measure => simp [intOf]; omega
          case rel =>
            refine ⟨k + 1, true, O ++ [x] ++ [y], by omega, by simp; omega, by go_num, rfl, Below.grown (Below.alloc HB5.out (by omega) _) HG6.out (by simp; omega) (fun q hq => (HLo5.out q hq).1), HO6.out, ?_⟩
            have := HI.out
            rw [if_neg (by decide), HT.out] at this
            rw [insI_cons, if_pos HXY.out] at this
            rw [if_pos rfl, List.append_assoc, List.append_assoc]; exact this
        · have hd := decide_eq_false hxy
          have HXY := Lib.hid hxy
          go_wp2_with (at_builtin; refine wpList_appE etInts encI_len encI_one (y := y) rfl (.tmp 29) (.tmp 34) rfl rfl (OK.alloc (w := wr) HO.out _) wr.heap.size rfl (oneI wr y _) (by have := HL.out; simp; omega) (by simp; omega) ?_; intro v5 w5 ho5 hg5 hb5; have HO5 := Lib.hid ho5; have HG5 := Lib.hid hg5; clear ho5 hg5 hb5)
          go_roundw
          case measure => simp [intOf]; omega
          case rel =>
            refine ⟨k + 1, false, O ++ [y], by omega, by simp; omega, by go_num, rfl, Below.grown (Below.alloc HB.out (by omega) _) HG5.out (by simp; omega) (fun q hq => (HLo.out q hq).1), HO5.out, ?_⟩
            have := HI.out
            rw [if_neg (by decide), HT.out] at this
            rw [insI_cons, if_neg HXY.out] at this
            rw [if_neg (by decide), List.append_assoc]; exact this
    · obtain rfl : k = n := by omega
      have HL := Lib.hid hol
      have HLo := Lib.hid HO.out.lt
      clear hbel ho hins
      cases q with
      | true =>
        have HF : Hid (O = insI x V) := by
          have := HI.out
          rw [if_pos rfl, HN.out, List.drop_length, List.append_nil] at this
          exact this
        obtain ⟨At, ct, rfl, -, -, -, -⟩ := (HO.out.rk encI_len (Nat.le_refl _)).open_
        go_wp2
        go_ret
        exact ⟨_, rfl, by rw [← HF.out]; exact HO.out, HB.out⟩
      | false =>
        have HF : Hid (O ++ [x] = insI x V) := by
          have := HI.out
          rw [if_neg (by decide), HN.out, List.drop_length] at this
          exact this
        go_wp2_with (at_builtin; refine wpList_appE etInts encI_len encI_one (y := x) rfl (.tmp 38) (.tmp 40) rfl rfl (OK.alloc (w := wr) HO.out _) wr.heap.size rfl (oneI wr x _) (by have := HL.out; omega) (by simp; omega) ?_; intro v5 w5 ho5 hg5 hb5; have HO5 := Lib.hid ho5; have HG5 := Lib.hid hg5; clear ho5 hg5 hb5)
        go_ret
        exact ⟨_, rfl, by rw [← HF.out]; exact HO5.out, Below.grown (Below.alloc HB.out (by omega) _) HG5.out (by simp; omega) (fun q hq => (HLo.out q hq).1)⟩
end Go.Proofs.Ytlakcldgolpaiaa

/-
  What EulerBack asks: the trees behind Link, and behind Cut of the same edge. No walk.
-/
namespace Go.Proofs.Ytlakcldgolpaiaa
set_option linter.unusedVariables false

theorem mem_insI {n : Int} : ∀ {xs : List Int} {i : Int}, i ∈ insI n xs ↔ i ∈ xs ∨ i = n
  | [], i => by simp [insI]
  | x :: r, i => by
    rw [insI_cons]
    split
    · simp only [List.mem_cons]; constructor
      · rintro (h | h | h); exact .inr h; exact .inl (.inl h); exact .inl (.inr h)
      · rintro ((h | h) | h); exact .inr (.inl h); exact .inr (.inr h); exact .inl h
    · rw [List.mem_cons, mem_insI, List.mem_cons, or_assoc]

theorem insI_sorted {n : Int} : ∀ {xs : List Int}, xs.Pairwise (· < ·) → n ∉ xs → (insI n xs).Pairwise (· < ·)
  | [], _, _ => by simp [insI]
  | x :: r, h, hn => by
    rw [insI_cons]
    obtain ⟨h1, h2⟩ := List.pairwise_cons.1 h
    have hxn : n ≠ x := fun e => hn (by rw [e]; simp)
    split
    · rename_i hlt
      refine List.pairwise_cons.2 ⟨fun y hy => ?_, h⟩
      rcases List.mem_cons.1 hy with rfl | hy
      · exact hlt
      · have := h1 y hy; omega
    · rename_i hlt
      refine List.pairwise_cons.2 ⟨fun y hy => ?_, insI_sorted h2 fun e => hn (List.mem_cons_of_mem _ e)⟩
      rcases mem_insI.1 hy with hy | rfl
      · exact h1 y hy
      · omega

theorem insI_rise {n : Int} {xs : List Int} {P P' : Int → Prop} (h : Rise xs P) (hn : ¬ P n) (he : ∀ i, P' i ↔ P i ∨ i = n) : Rise (insI n xs) P' :=
  ⟨insI_sorted h.1 fun e => hn ((h.2 n).1 e), fun i => by rw [mem_insI, h.2, he]⟩

theorem insI_len (n : Int) : ∀ xs : List Int, (insI n xs).length = xs.length + 1
  | [] => rfl
  | x :: r => by
    rw [insI_cons]
    split
    · rfl
    · rw [List.length_cons, insI_len n r, List.length_cons]

theorem conn_link {E : List Edg} {id u v x y : Int} : Conn ((id, u, v) :: E) x y ↔ Conn E x y ∨ (Conn E x u ∧ Conn E v y) ∨ (Conn E x v ∧ Conn E u y) := by
  have hm : ∀ e ∈ E, e ∈ (id, u, v) :: E := fun e he => List.mem_cons_of_mem _ he
  have h1 := Conn.one (es := (id, u, v) :: E) (List.mem_cons_self ..)
  constructor
  · intro h
    induction h with
    | refl => exact .inl (.refl _)
    | @step a b i p q _ he hx ih =>
      rcases List.mem_cons.1 he with he | he
      · injection he with e1 e2
        injection e2 with e2 e3
        subst e2 e3
        rcases hx with ⟨rfl, rfl⟩ | ⟨rfl, rfl⟩
        · rcases ih with ih | ih | ih
          · exact .inr (.inl ⟨ih, .refl _⟩)
          · exact .inr (.inl ⟨ih.1, .refl _⟩)
          · exact .inl ih.1
        · rcases ih with ih | ih | ih
          · exact .inr (.inr ⟨ih, .refl _⟩)
          · exact .inl ih.1
          · exact .inr (.inr ⟨ih.1, .refl _⟩)
      · rcases ih with ih | ih | ih
        · exact .inl (.step ih he hx)
        · exact .inr (.inl ⟨ih.1, .step ih.2 he hx⟩)
        · exact .inr (.inr ⟨ih.1, .step ih.2 he hx⟩)
  · rintro (h | ⟨h, h'⟩ | ⟨h, h'⟩)
    · exact h.mono hm
    · exact ((h.mono hm).trans h1.1).trans (h'.mono hm)
    · exact ((h.mono hm).trans h1.2).trans (h'.mono hm)

section

variable {G : FS} {id u v w : Int}

theorem linkA_is (h : G.linkE id u v = 0) : (G.linkA id u v).vs = G.vs ∧ (G.linkA id u v).edges = (id, u, v) :: G.edges := by
  have ha : G.linkA id u v = G.link id u v ((G.pv u).getD 0) ((G.pv v).getD 0) := by unfold FS.linkA; rw [if_pos h]
  rw [ha]
  exact ⟨rfl, rfl⟩

/-- The two trees become one. -/
theorem link_tree (h : G.linkE id u v = 0) (i : Int) : (G.linkA id u v).inV v i ↔ G.inV u i ∨ G.inV v i := by
  obtain ⟨h1, h2⟩ := linkA_is h
  obtain ⟨-, -, -, -, hu, hv, hn⟩ := linkE_ok h
  unfold FS.inV
  rw [h1, h2, conn_link]
  constructor
  · rintro ⟨a, b | b | b⟩
    · exact .inr ⟨a, b⟩
    · exact absurd b.1.symm hn
    · exact .inl ⟨a, b.2⟩
  · rintro (⟨a, b⟩ | ⟨a, b⟩)
    · exact ⟨a, .inr (.inr ⟨.refl _, b⟩)⟩
    · exact ⟨a, .inl b⟩

/-- No vertex stands in both. -/
theorem link_apart (h : G.linkE id u v = 0) {i : Int} (hi : i ∈ G.treeV v) : i ∉ G.treeV u := by
  obtain ⟨-, -, -, -, hu, hv, hn⟩ := linkE_ok h
  intro hj
  exact hn ((((G.riseV hu).2 i).1 hj).2.trans (((G.riseV hv).2 i).1 hi).2.symm)

/-- All other vertices stay in their trees. -/
theorem link_other (h : G.linkE id u v = 0) (hw : w ∉ (G.linkA id u v).treeV v) : (G.linkA id u v).treeV w = G.treeV w := by
  obtain ⟨h1, h2⟩ := linkA_is h
  obtain ⟨-, -, -, -, hu, hv, hn⟩ := linkE_ok h
  by_cases hin : w ∈ G.vs
  · have hin' : w ∈ (G.linkA id u v).vs := by rw [h1]; exact hin
    have hv' : v ∈ (G.linkA id u v).vs := by rw [h1]; exact hv
    have hno : ¬ (G.inV u w ∨ G.inV v w) := fun e => hw (((G.linkA id u v).riseV hv').2 w |>.2 ((link_tree h w).2 e))
    refine rise_unique ((G.linkA id u v).riseV hin') ((G.riseV hin).congr fun i => ?_)
    unfold FS.inV
    rw [h1, h2, conn_link]
    constructor
    · exact fun e => ⟨e.1, .inl e.2⟩
    · rintro ⟨a, b | b | b⟩
      · exact ⟨a, b⟩
      · exact absurd (.inl ⟨hin, b.1.symm⟩) hno
      · exact absurd (.inr ⟨hin, b.1.symm⟩) hno
  · rw [G.outV hin, (G.linkA id u v).outV (by rw [h1]; exact hin)]

theorem link_err (h : G.linkE id u v = 0) (w : Int) : (G.linkA id u v).errV w = G.errV w := by unfold FS.errV; rw [(linkA_is h).1]

/-- Cut takes back what Link did. -/
theorem link_cut (h : G.linkE id u v = 0) : (G.linkA id u v).cutE id = 0 ∧ G.Like ((G.linkA id u v).cutA id) ∧ id ∉ ids ((G.linkA id u v).cutA id).edges := by
  obtain ⟨h1, h2⟩ := linkA_is h
  obtain ⟨ho, -, -, hid, -, -, -⟩ := linkE_ok h
  obtain ⟨c1, c2, -, -⟩ := cut_ok (F := G.linkA id u v) ⟨h1, h2⟩ (id := id) ho (by simp [ids])
  have hf : ((id, u, v) :: G.edges).filter (fun e => !decide (e.1 = id)) = G.edges := by
    rw [List.filter_cons]
    rw [if_neg (by simp)]
    refine List.filter_eq_self.2 fun e he => ?_
    have : e.1 ≠ id := fun e1 => hid (List.mem_map.2 ⟨e, he, e1⟩)
    simp [this]
  have c3 := c2.es
  rw [hf] at c3
  exact ⟨c1, ⟨c2.vs, c3⟩, by rw [c3]; exact hid⟩

/-- What a link that is refused tells. -/
theorem link_refused (h : G.linkE id u v = 51) : G.errV u ≠ 0 ∨ G.errV v ≠ 0 := by
  by_cases hu : u ∈ G.vs
  · by_cases hv : v ∈ G.vs
    · exfalso
      unfold FS.linkE at h
      split at h
      · split at h
        · omega
        · rw [if_pos ⟨hu, hv⟩] at h
          split at h <;> omega
      · omega
    · right; rw [G.errV_out hv]; decide
  · left; rw [G.errV_out hu]; decide

theorem errV_cases (G : FS) (u : Int) : u ∈ G.vs ∧ G.errV u = 0 ∨ u ∉ G.vs ∧ G.errV u = 51 := by
  by_cases h : u ∈ G.vs
  · exact .inl ⟨h, G.errV_in h⟩
  · exact .inr ⟨h, G.errV_out h⟩

end

end Go.Proofs.Ytlakcldgolpaiaa

/-
  skeinref01's CopyInts (the law of T20, for this seat).
-/
namespace Go.Proofs.Ytlakcldgolpaiaa
open Go.RowKit
set_option linter.unusedVariables false

def CopRel (w : World) (V : List Int) (n : Nat) (t i : Value) (wr : World) : Prop :=
  ∃ k : Nat, k ≤ n ∧ i = .int .i64 k ∧ Below w.heap.size w wr ∧ OK encI 1 3 wr w.heap.size t (V.take k)
set_option maxRecDepth 100000 in
set_option maxHeartbeats 2000000 in
theorem CopyInts_any (v : Value) (V : List Int) (w : World) (B : Nat) (hv : RI w B v V) (hB : B ≤ w.heap.size) (hlen : V.length ≤ 100000) :
    Calls Try.prog 20 #[v] w fun e w' => ∃ v', e = .returned v' ∧ OK encI 1 3 w' w.heap.size v' V ∧ Below w.heap.size w w' := by
  obtain ⟨A, c, rfl, hc1, hc2, hc3, HC⟩ := hv.open_
  clear hv
  obtain ⟨n, hn⟩ : ∃ n, n = V.length := ⟨_, rfl⟩
  rw [← hn] at hc1 hc3 hlen ⊢
  have HN := Lib.hid hn
  clear hn
  go_enter Try.func20, Try.ntmps20
  go_wp2
  go_loopw [3, 4] (fun t i wr => CopRel w V n t i wr) (fun _ i wr => n - (intOf i).toNat)
  case atStart =>
    refine ⟨0, Nat.zero_le _, rfl, (Below.refl _ _).alloc (Nat.le_refl _) _, ?_⟩
    rw [List.take_zero]
    exact ⟨by simp, World.ownsRow_lit w #[] 0 (by omega) (by decide) rfl⟩
  case round =>
    obtain ⟨k, hk, rfl, hbel, ho⟩ := hrel
    have HB := Lib.hid hbel
    have HO := Lib.hid ho
    have hz := hbel.size
    by_cases hlt : k < n
    · obtain ⟨b, o, rfl, hb, hx⟩ := HC.out k (by have := HN.out; omega)
      obtain ⟨y, hy⟩ : ∃ y, y = V[k]'(by have := HN.out; omega) := ⟨_, rfl⟩
      have hT : V.take (k + 1) = V.take k ++ [y] := by rw [List.take_succ_eq_append_getElem (by have := HN.out; omega), ← hy]
      have hl : (V.take k).length ≤ k := List.length_take_le _ _
      rw [← hy] at hx
      have hx := cellI hx
      have HT := Lib.hid hT
      have HL := Lib.hid hl
      have hx := (hbel.cell (p := ⟨b, o + k, none⟩) (by show b < _; omega)).trans hx
      have HLo := Lib.hid HO.out.lt
      clear hy hT hl hbel ho
      go_wp2_with (at_builtin; refine wpList_appE etInts encI_len encI_one (y := y) rfl (.tmp 12) (.tmp 17) rfl rfl (HO.out.alloc _) wr.heap.size rfl (oneI wr y _) (by have := HL.out; omega) (by simp; omega) ?_; intro v' w5 ho5 hg5 hb5; have HO5 := Lib.hid ho5; have HG5 := Lib.hid hg5; clear ho5 hg5 hb5)
      go_roundw
      case rel =>
        refine ⟨k + 1, by omega, by go_num, (HB.out.alloc (by omega) _).grown HG5.out (by simp; omega) (fun q hq => (HLo.out q hq).1), ?_⟩
        rw [HT.out]; exact HO5.out
      case measure => simp [intOf]; omega
    · obtain rfl : k = n := by omega
      clear hbel ho
      go_wp2
      go_ret
      refine ⟨_, rfl, ?_, HB.out⟩
      have := HO.out
      rw [HN.out, List.take_length] at this
      exact this

end Go.Proofs.Ytlakcldgolpaiaa

/-
  A forest and rows of numbers beside it, kept together: one contract per call.
-/
namespace Go.Proofs.Ytlakcldgolpaiaa
open Go.RowKit Go.Maps
set_option linter.unusedVariables false

/-- A forest made since w, and rows made since w that none of its calls turns. -/
def Bes (w wr : World) (f : Nat) (F : FS) (L : List (Value × List Int)) : Prop := ∃ Q, FB w.heap.size Q wr f F ∧ Below w.heap.size w wr ∧ ∀ p ∈ L, OK encI 1 3 wr w.heap.size p.1 p.2 ∧ ∀ b, p.1.ownBlock = some b → Q b

section

variable {w wr w' : World} {f : Nat} {F : FS} {L : List (Value × List Int)}

theorem Bes.start (h : FB w.heap.size noQ wr f F) (hb : Below w.heap.size w wr) : Bes w wr f F [] := ⟨noQ, h, hb, fun p hp => by cases hp⟩

theorem Bes.good (h : Bes w wr f F L) : F.Good := by obtain ⟨Q, h1, -⟩ := h; exact h1.good

theorem Bes.size (h : Bes w wr f F L) : w.heap.size ≤ wr.heap.size := by obtain ⟨Q, -, h2, -⟩ := h; exact h2.size

theorem Bes.low (h : Bes w wr f F L) : Below w.heap.size w wr := by obtain ⟨Q, -, h2, -⟩ := h; exact h2

theorem Bes.ok (h : Bes w wr f F L) {v : Value} {V : List Int} (hm : (v, V) ∈ L) : OK encI 1 3 wr w.heap.size v V := by obtain ⟨Q, -, -, h3⟩ := h; exact (h3 _ hm).1

theorem Bes.ri (h : Bes w wr f F L) {v : Value} {V : List Int} (hm : (v, V) ∈ L) : RI wr wr.heap.size v V := (h.ok hm).rk encI_len (Nat.le_refl _)

theorem Bes.sub {L' : List (Value × List Int)} (h : Bes w wr f F L) (hs : ∀ p ∈ L', p ∈ L) : Bes w wr f F L' := by
  obtain ⟨Q, h1, h2, h3⟩ := h
  exact ⟨Q, h1, h2, fun p hp => h3 p (hs p hp)⟩

theorem Bes.below (h : Bes w wr f F L) (hb : Below wr.heap.size wr w') : Bes w w' f F L := by
  obtain ⟨Q, h1, h2, h3⟩ := h
  exact ⟨Q, h1.below hb, h2.trans (hb.mono h2.size), fun p hp => ⟨(h3 p hp).1.below hb, (h3 p hp).2⟩⟩

theorem Bes.drewN (h : Bes w wr f F L) (n : Nat) : Bes w (wr.drewN n) f F L := h.below (below_drewN (Below.refl _ _) n)

/-- One more row. -/
theorem Bes.add (h : Bes w wr f F L) (hb : Below wr.heap.size wr w') {v : Value} {V : List Int} (ho : OK encI 1 3 w' wr.heap.size v V) : Bes w w' f F ((v, V) :: L) := by
  obtain ⟨Q, h1, h2, h3⟩ := h
  refine ⟨andRow Q v, h1.andRow hb ho, h2.trans (hb.mono h2.size), fun p hp => ?_⟩
  rcases List.mem_cons.1 hp with rfl | hp
  · exact ⟨ho.base h2.size, fun b hb => .inr hb⟩
  · exact ⟨(h3 p hp).1.below hb, fun b hb => .inl ((h3 p hp).2 b hb)⟩

/-- The forest turns. -/
theorem bes_turn {F' : FS} {Q : Nat → Prop} (h2 : Below w.heap.size w wr) (h3 : ∀ p ∈ L, OK encI 1 3 wr w.heap.size p.1 p.2 ∧ ∀ b, p.1.ownBlock = some b → Q b) (h4 : FB w.heap.size Q w' f F') (ht : TameF w.heap.size Q wr w') : Bes w w' f F' L :=
  ⟨Q, h4, h2.trans ht.below, fun p hp => ⟨ht.row (h3 p hp).1 (h3 p hp).2, (h3 p hp).2⟩⟩

theorem sVerts (h : Bes w wr f F L) (u : Int) (hu : I64 u) :
    Calls Try.prog 16 #[.pointer (some ⟨f, 0, none⟩), .int .i64 u] wr fun e w' => ∃ A c, e = .returned (.tuple #[.slice A (F.treeV u).length c, .int .i64 (F.errV u)]) ∧ Bes w w' f F ((.slice A (F.treeV u).length c, F.treeV u) :: L) := by
  have h0 := h
  obtain ⟨Q, h1, h2, h3⟩ := h
  refine (bVerts _ _ wr f F h1 u hu).mono ?_
  rintro e w' ⟨v, rfl, o, b⟩
  obtain ⟨A, c, rfl, -, -, -, -⟩ := (o.rk encI_len (Nat.le_refl _)).open_
  exact ⟨A, c, rfl, h0.add b o⟩

theorem sEdges (h : Bes w wr f F L) (u : Int) (hu : I64 u) :
    Calls Try.prog 17 #[.pointer (some ⟨f, 0, none⟩), .int .i64 u] wr fun e w' => ∃ A c, e = .returned (.tuple #[.slice A (F.treeE u).length c, .int .i64 (F.errV u)]) ∧ Bes w w' f F ((.slice A (F.treeE u).length c, F.treeE u) :: L) := by
  have h0 := h
  obtain ⟨Q, h1, h2, h3⟩ := h
  refine (bEdges _ _ wr f F h1 u hu).mono ?_
  rintro e w' ⟨v, rfl, o, b⟩
  obtain ⟨A, c, rfl, -, -, -, -⟩ := (o.rk encI_len (Nat.le_refl _)).open_
  exact ⟨A, c, rfl, h0.add b o⟩

theorem sHas (h : Bes w wr f F L) (id : Int) (hi : I64 id) :
    Calls Try.prog 13 #[.pointer (some ⟨f, 0, none⟩), .int .i64 id] wr fun e w' => e = .returned (.bool (decide (id ∈ ids F.edges))) ∧ Bes w w' f F L := by
  have h0 := h
  obtain ⟨Q, h1, h2, h3⟩ := h
  refine (bHas _ _ wr f F h1 id hi).mono ?_
  rintro e w' ⟨rfl, b⟩
  exact ⟨rfl, h0.below b⟩

theorem sLink (h : Bes w wr f F L) (id u v : Int) (hi : I64 id) (hu : I64 u) (hv : I64 v) :
    Calls Try.prog 18 #[.pointer (some ⟨f, 0, none⟩), .int .i64 id, .int .i64 u, .int .i64 v] wr fun e w' => e = .returned (.int .i64 (F.linkE id u v)) ∧ Bes w w' f (F.linkA id u v) L := by
  obtain ⟨Q, h1, h2, h3⟩ := h
  refine (bLink _ _ wr f F h1 h2.size id u v hi hu hv).mono ?_
  rintro e w' ⟨rfl, h4, ht⟩
  exact ⟨rfl, bes_turn h2 h3 h4 ht⟩

theorem sCut (h : Bes w wr f F L) (id : Int) (hi : I64 id) :
    Calls Try.prog 23 #[.pointer (some ⟨f, 0, none⟩), .int .i64 id] wr fun e w' => e = .returned (.int .i64 (F.cutE id)) ∧ Bes w w' f (F.cutA id) L := by
  obtain ⟨Q, h1, h2, h3⟩ := h
  refine (bCut _ _ wr f F h1 h2.size id hi).mono ?_
  rintro e w' ⟨rfl, h4, ht⟩
  exact ⟨rfl, bes_turn h2 h3 h4 ht⟩

theorem sSame (h : Bes w wr f F L) {v v2 : Value} {V : List Int} (h1 : (v, V) ∈ L) (h2 : (v2, V) ∈ L) :
    Calls Try.prog 19 #[v, v2] wr fun e w' => e = .returned (.bool true) ∧ Bes w w' f F L := by
  refine (SameInts_yes _ _ V wr _ _ (h.ri h1) (h.ri h2)).mono ?_
  rintro e w' ⟨rfl, q, rfl⟩
  exact ⟨rfl, h.drewN q⟩

theorem sIn (h : Bes w wr f F L) {v : Value} {V : List Int} (h1 : (v, V) ∈ L) (n : Int) :
    Calls Try.prog 21 #[v, .int .i64 n] wr fun e w' => e = .returned (.bool (decide (n ∈ V))) ∧ Bes w w' f F L := by
  refine (has_any _ V wr _ (h.ri h1) n).mono ?_
  rintro e w' ⟨rfl, rfl⟩
  exact ⟨rfl, h⟩

theorem sCopy (h : Bes w wr f F L) {v : Value} {V : List Int} (h1 : (v, V) ∈ L) (hl : V.length ≤ 100000) :
    Calls Try.prog 20 #[v] wr fun e w' => ∃ A c, e = .returned (.slice A V.length c) ∧ Bes w w' f F ((.slice A V.length c, V) :: L) := by
  refine (CopyInts_any _ V wr _ (h.ri h1) (Nat.le_refl _) hl).mono ?_
  rintro e w' ⟨v', rfl, o, b⟩
  obtain ⟨A, c, rfl, -, -, -, -⟩ := (o.rk encI_len (Nat.le_refl _)).open_
  exact ⟨A, c, rfl, h.add b o⟩

theorem sWith (h : Bes w wr f F L) {v : Value} {V : List Int} (h1 : (v, V) ∈ L) (hl : V.length ≤ 100000) (x : Int) :
    Calls Try.prog 22 #[v, .int .i64 x] wr fun e w' => ∃ A c, e = .returned (.slice A (insI x V).length c) ∧ Bes w w' f F ((.slice A (insI x V).length c, insI x V) :: L) := by
  refine (With_any _ V x wr _ (h.ri h1) (Nat.le_refl _) hl).mono ?_
  rintro e w' ⟨v', rfl, o, b⟩
  obtain ⟨A, c, rfl, -, -, -, -⟩ := (o.rk encI_len (Nat.le_refl _)).open_
  exact ⟨A, c, rfl, h.add b o⟩

end

/-- A number of the tree that comes next is not among those before. -/
theorem next_new {V : List Int} (h : V.Nodup) {k : Nat} {y : Int} (ht : V.take (k + 1) = V.take k ++ [y]) : y ∉ V.take k := by
  have h1 : (V.take (k + 1)).Nodup := h.sublist (List.take_sublist _ _)
  rw [ht, List.nodup_append] at h1
  exact fun hm => h1.2.2 y hm y (List.mem_singleton.2 rfl) rfl

end Go.Proofs.Ytlakcldgolpaiaa

/-
  The walk of EulerBack.
-/
namespace Go.Proofs.Ytlakcldgolpaiaa
open Go.RowKit Go.Maps
set_option linter.unusedVariables false

set_option maxRecDepth 100000 in
set_option maxHeartbeats 8000000 in
theorem eulerBack_walk (w : World) (v0 : Value) (ss : List Int) (v1 : Value) (os : List OpE) (id u v z : Int) (h0 : RI w w.heap.size v0 ss) (hs : ScrE w v1 os) (hi : I64 id) (hu : I64 u) (hv : I64 v) (hz : I64 z) :
    Calls Try.prog 4 #[v0, v1, .int .i64 id, .int .i64 u, .int .i64 v, .int .i64 z] w fun e w' => e = .returned (.bool true) ∧ Below w.heap.size w w' := by
  have hf := filled_any w v0 ss v1 os h0 hs
  obtain ⟨A0, c0, hv0, -, -, -, -⟩ := h0.open_
  obtain ⟨n0, hn0⟩ : ∃ n0, n0 = ss.length := ⟨_, rfl⟩
  rw [← hn0] at hv0
  subst hv0
  obtain ⟨A1, c1, hv1, -, -, -, -⟩ := hs.rk.open_
  obtain ⟨n1, hn1⟩ : ∃ n1, n1 = os.length := ⟨_, rfl⟩
  rw [← hn1] at hv1
  subst hv1
  obtain ⟨G, hG⟩ : ∃ G, G = FS.new.runsE os := ⟨_, rfl⟩
  rw [← hG] at hf
  have HF := Lib.hid hf
  clear h0 hs hn0 hn1 hG hf
  go_enter Try.func4, Try.ntmps4
  go_wp2_with fail
  refine HF.out.mono ?_
  rintro e w1 ⟨f, rfl, h1, b1⟩
  have H1 := Lib.hid h1
  have T1 := Lib.hid b1
  clear h1 b1
  go_wp2_with fail
  refine (alive_any w1).mono ?_
  rintro e w2 ⟨rfl, b2⟩
  have B2 := Lib.hid (Bes.start (H1.out.below b2) (T1.out.trans (b2.mono T1.out.size)))
  clear b2 H1 T1
  go_wp2_with fail
  refine (sVerts B2.out u hu).mono ?_
  rintro e w3 ⟨A3, c3, rfl, b⟩
  have B3 := Lib.hid b
  clear b B2
  go_wp2_with fail
  refine (sVerts B3.out v hv).mono ?_
  rintro e w4 ⟨A4, c4, rfl, b⟩
  have B4 := Lib.hid b
  clear b B3
  go_wp2_with fail
  refine (sVerts B4.out z hz).mono ?_
  rintro e w5 ⟨A5, c5, rfl, b⟩
  have B5 := Lib.hid b
  clear b B4
  go_wp2_with fail
  refine (sEdges B5.out u hu).mono ?_
  rintro e w6 ⟨A6, c6, rfl, b⟩
  have B6 := Lib.hid b
  clear b B5
  go_wp2_with fail
  refine (sLink B6.out id u v hi hu hv).mono ?_
  rintro e w7 ⟨rfl, b⟩
  have B7 := Lib.hid b
  clear b B6
  by_cases hk : G.linkE id u v = 0
  case neg =>
    rw [G.linkA_no rfl hk] at B7
    have HK := Lib.hid hk
    have hkd : (G.linkE id u v != 0) = true := by simpa using hk
    have HLK := Lib.hid (link_refused (G := G) (id := id) (u := u) (v := v))
    obtain ⟨k, hkk⟩ : ∃ k, k = G.linkE id u v := ⟨_, rfl⟩
    rw [← hkk] at hkd HLK ⊢
    clear hk hkk
    go_wp2_with fail
    refine (sVerts B7.out z hz).mono ?_
    rintro e w8 ⟨A7, c7, rfl, b⟩
    have B8 := Lib.hid b
    clear b B7
    go_wp2_with fail
    refine (sSame B8.out (v := .slice A7 (G.treeV z).length c7) (v2 := .slice A5 (G.treeV z).length c5) (V := G.treeV z) (by simp) (by simp)).mono ?_
    rintro e w9 ⟨rfl, b⟩
    have B9 := Lib.hid b
    clear b B8
    by_cases h51 : k = 51
    · rcases HLK.out h51 with e | e
      · have e1 : (G.errV u != 0) = true := by simpa using e
        subst h51
        clear hkd e
        go_wp2_with fail
        go_ret
        exact ⟨rfl, B9.out.low⟩
      · have e2 : (G.errV v != 0) = true := by simpa using e
        subst h51
        clear hkd e
        rcases errV_cases G u with ⟨-, e1⟩ | ⟨-, e1⟩
        · rw [e1]
          clear e1
          go_wp2_with fail
          go_ret
          exact ⟨rfl, B9.out.low⟩
        · rw [e1]
          clear e1
          go_wp2_with fail
          go_ret
          exact ⟨rfl, B9.out.low⟩
    · have h51d : (k != 51) = true := by simpa using h51
      clear h51
      go_wp2_with fail
      go_ret
      exact ⟨rfl, B9.out.low⟩
  case pos =>
  obtain ⟨-, -, -, -, hiu, hiv, -⟩ := linkE_ok hk
  have HLA := Lib.hid (linkA_is hk)
  have HLT := Lib.hid (link_tree hk)
  have HLP := Lib.hid fun i => link_apart hk (i := i)
  have HLO := Lib.hid fun z => link_other hk (w := z)
  have HLC := Lib.hid (link_cut hk)
  have HLE := Lib.hid (link_err hk z)
  obtain ⟨G1, hG1⟩ : ∃ G1, G1 = G.linkA id u v := ⟨_, rfl⟩
  rw [← hG1] at B7 HLA HLT HLO HLC HLE
  rw [hk, G.errV_in hiu, G.errV_in hiv]
  have HIU := Lib.hid hiu
  have HIV := Lib.hid hiv
  have HIV1 : Hid (v ∈ G1.vs) := Lib.hid (by rw [HLA.out.1]; exact hiv)
  have HNU : Hid ((G.treeV u).length ≤ 2048) := Lib.hid (by
    have h1 := (G.riseV hiu).nd.length_le_of_subset (l₂ := G1.vs) (fun v hv => by rw [HLA.out.1]; exact (((G.riseV hiu).2 v).1 hv).1)
    have h2 := B7.out.good.few
    omega)
  have HNV : Hid ((G.treeV v).length ≤ 2048) := Lib.hid (by
    have h1 := (G.riseV hiv).nd.length_le_of_subset (l₂ := G1.vs) (fun v hv => by rw [HLA.out.1]; exact (((G.riseV hiv).2 v).1 hv).1)
    have h2 := B7.out.good.few
    omega)
  have hnv := HNV.out
  have HRU := Lib.hid (G.riseV hiu)
  have HRV := Lib.hid (G.riseV hiv)
  clear hiu hiv hk hG1
  go_wp2_with fail
  refine (sCopy B7.out (v := .slice A3 (G.treeV u).length c3) (V := G.treeV u) (by simp) (by have := HNU.out; omega)).mono ?_
  rintro e w8 ⟨A8, c8, rfl, b⟩
  have B8 := Lib.hid b
  clear b B7
  go_wp2_with fail
  obtain ⟨nv, hnv2⟩ : ∃ nv, nv = (G.treeV v).length := ⟨_, rfl⟩
  rw [← hnv2] at B8 hnv ⊢
  have HN := Lib.hid hnv2
  clear hnv2
  go_loopw [25, 105] (fun x i wr => ∃ (k : Nat) (A : Option Addr) (c : Nat) (L : List Int), k ≤ nv ∧ i = .int .i64 k ∧ x = .slice A L.length c ∧ Hid (Rise L (fun i => i ∈ G.treeV u ∨ i ∈ (G.treeV v).take k)) ∧ Hid (L.length = (G.treeV u).length + k) ∧ Hid (Bes w wr f G1 [(x, L), (.slice A6 (G.treeE u).length c6, G.treeE u), (.slice A5 (G.treeV z).length c5, G.treeV z), (.slice A4 nv c4, G.treeV v), (.slice A3 (G.treeV u).length c3, G.treeV u)])) (fun _ i _ => nv - (intOf i).toNat)
  case atStart => exact ⟨0, A8, c8, G.treeV u, Nat.zero_le _, rfl, rfl, Lib.hid ((HRU.out.congr fun i => by rw [List.take_zero]; simp [(HRU.out.2 i)])), Lib.hid rfl, Lib.hid (B8.out.sub (by simp))⟩
  case round =>
    clear B8
    obtain ⟨k, A, c, L, hk, rfl, rfl, HL, HLN, HB⟩ := hrel
    by_cases hkl : k < nv
    case pos =>
      have hkv : k < (G.treeV v).length := by have := HN.out; omega
      have HR := Lib.hid (HB.out.ri (v := .slice A4 nv c4) (V := G.treeV v) (by simp))
      obtain ⟨A9, c9, he5, -, -, -, HC⟩ := HR.out.open_
      injection he5 with he5 hel he6
      subst he5
      subst he6
      clear hel
      obtain ⟨b1, o1, rfl, hb1, hx⟩ := HC.out k hkv
      have HY := Lib.hid (List.getElem_mem hkv)
      have HTK := Lib.hid (List.take_succ_eq_append_getElem hkv)
      obtain ⟨y, hy⟩ : ∃ y, y = (G.treeV v)[k] := ⟨_, rfl⟩
      rw [← hy] at hx HY HTK
      have hx := cellI hx
      have HNU2 := Lib.hid (HLP.out y HY.out)
      have HNW := Lib.hid (next_new HRV.out.nd HTK.out)
      clear hy HC
      have hkn : (k : Int) < (nv : Int) := by omega
      have hkd : decide ((k : Int) < (nv : Int)) = true := by simpa using hkl
      go_wp2_with fail
      refine (sIn HB.out (v := .slice A3 (G.treeV u).length c3) (V := G.treeV u) (by simp) y).mono ?_
      rw [decide_eq_false HNU2.out]
      rintro e w9 ⟨rfl, b⟩
      have B9 := Lib.hid b
      clear b
      go_wp2_with fail
      refine (sWith B9.out (v := .slice A L.length c) (V := L) (by simp) (by have := HLN.out; have := HNU.out; omega) y).mono ?_
      rintro e w10 ⟨A10, c10, rfl, b⟩
      have B10 := Lib.hid (b.sub (L' := [(.slice A10 (insI y L).length c10, insI y L), (.slice A6 (G.treeE u).length c6, G.treeE u), (.slice A5 (G.treeV z).length c5, G.treeV z), (.slice (some ⟨b1, o1, none⟩) nv c4, G.treeV v), (.slice A3 (G.treeV u).length c3, G.treeV u)]) (by simp))
      clear b B9
      have HL10 : Hid (Rise (insI y L) (fun i => i ∈ G.treeV u ∨ i ∈ (G.treeV v).take (k + 1))) := Lib.hid (insI_rise HL.out (by rintro (e | e); exact HNU2.out e; exact HNW.out e) fun i => by rw [HTK.out, List.mem_append, List.mem_singleton, or_assoc])
      have HLN10 : Hid ((insI y L).length = (G.treeV u).length + (k + 1)) := Lib.hid (by rw [insI_len, HLN.out, Nat.add_assoc])
      go_wp2_with fail
      go_roundw
      case rel => exact ⟨k + 1, _, _, insI y L, by omega, by go_num, rfl, HL10, HLN10, B10⟩
      case measure => simp [intOf]; omega
    case neg =>
    have HALL : Hid (L = G1.treeV v) := Lib.hid (by
      refine rise_unique HL.out ((G1.riseV HIV1.out).congr fun i => ?_)
      rw [List.take_of_length_le (by have := HN.out; omega), HLT.out i, HRU.out.2, HRV.out.2])
    obtain ⟨qk, hqk⟩ : ∃ q : Int, q = (k : Int) := ⟨_, rfl⟩
    rw [← hqk]
    have hkd : decide (qk < (nv : Int)) = false := by simp; omega
    clear hqk
    have HB2 := HB
    rw [HALL.out] at HB2 ⊢
    have B20 := Lib.hid HB2.out
    clear HB HB2 HL HLN hkl hk HALL
    go_wp2_with fail
    refine (sVerts B20.out v hv).mono ?_
    rw [G1.errV_in HIV1.out]
    rintro e w21 ⟨A21, c21, rfl, b⟩
    have B21 := Lib.hid b
    clear b B20
    go_wp2_with fail
    refine (sVerts B21.out z hz).mono ?_
    rw [HLE.out]
    rintro e w22 ⟨A22, c22, rfl, b⟩
    have B22 := Lib.hid b
    clear b B21
    go_wp2_with fail
    refine (sSame B22.out (v := .slice A21 (G1.treeV v).length c21) (v2 := .slice A (G1.treeV v).length c) (V := G1.treeV v) (by simp) (by simp)).mono ?_
    rintro e w23 ⟨rfl, b⟩
    have B23 := Lib.hid b
    clear b B22
    rcases errV_cases G z with ⟨hzi, e1⟩ | ⟨-, e1⟩
    case inr =>
      rw [e1]
      clear e1
      go_wp2_with fail
      refine (sCut B23.out id hi).mono ?_
      rw [HLC.out.1]
      rintro e w40 ⟨rfl, b⟩
      have B40 := Lib.hid b
      clear b B23
      have HLK2 := Lib.hid HLC.out.2.1
      have HLK3 := Lib.hid HLC.out.2.2
      obtain ⟨G2, hG2⟩ : ∃ G2, G2 = G1.cutA id := ⟨_, rfl⟩
      rw [← hG2] at B40 HLK2 HLK3
      clear hG2
      go_wp2_with fail
      refine (sHas B40.out id hi).mono ?_
      rw [decide_eq_false HLK3.out]
      rintro e w41 ⟨rfl, b⟩
      have B41 := Lib.hid b
      clear b B40
      go_wp2_with fail
      refine (sVerts B41.out u hu).mono ?_
      rw [HLK2.out.treeV, HLK2.out.errV]
      rintro e w42 ⟨A50, c50, rfl, b⟩
      have B42 := Lib.hid b
      clear b B41
      go_wp2_with fail
      refine (sVerts B42.out v hv).mono ?_
      rw [HLK2.out.treeV, HLK2.out.errV]
      rintro e w43 ⟨A51, c51, rfl, b⟩
      have B43 := Lib.hid b
      clear b B42
      go_wp2_with fail
      refine (sVerts B43.out z hz).mono ?_
      rw [HLK2.out.treeV, HLK2.out.errV]
      rintro e w44 ⟨A52, c52, rfl, b⟩
      have B44 := Lib.hid b
      clear b B43
      go_wp2_with fail
      refine (sEdges B44.out u hu).mono ?_
      rw [HLK2.out.treeE, HLK2.out.errV]
      rintro e w45 ⟨A53, c53, rfl, b⟩
      have B45 := Lib.hid b
      clear b B44
      go_wp2_with fail
      refine (sSame B45.out (v := .slice A50 (G.treeV u).length c50) (v2 := .slice A3 (G.treeV u).length c3) (V := G.treeV u) (by simp) (by simp)).mono ?_
      rintro e w46 ⟨rfl, b⟩
      have B46 := Lib.hid b
      clear b B45
      go_wp2_with fail
      refine (sSame B46.out (v := .slice A51 (G.treeV v).length c51) (v2 := .slice A4 nv c4) (V := G.treeV v) (by simp) (by simp)).mono ?_
      rintro e w47 ⟨rfl, b⟩
      have B47 := Lib.hid b
      clear b B46
      go_wp2_with fail
      refine (sSame B47.out (v := .slice A52 (G.treeV z).length c52) (v2 := .slice A5 (G.treeV z).length c5) (V := G.treeV z) (by simp) (by simp)).mono ?_
      rintro e w48 ⟨rfl, b⟩
      have B48 := Lib.hid b
      clear b B47
      go_wp2_with fail
      refine (sSame B48.out (v := .slice A6 (G.treeE u).length c6) (v2 := .slice A53 (G.treeE u).length c53) (V := G.treeE u) (by simp) (by simp)).mono ?_
      rintro e w49 ⟨rfl, b⟩
      have B49 := Lib.hid b
      clear b B48
      go_wp2_with fail
      go_ret
      exact ⟨rfl, B49.out.low⟩
    case inl =>
    rw [e1]
    clear e1
    by_cases hza : z ∈ G1.treeV v
    case pos =>
      have HZ := Lib.hid (tree_same HIV1.out hza).2.1
      rw [HZ.out] at B23 ⊢
      have HZA := Lib.hid hza
      clear hza
      go_wp2_with fail
      refine (sIn B23.out (v := .slice A (G1.treeV v).length c) (V := G1.treeV v) (by simp) z).mono ?_
      rw [decide_eq_true HZA.out]
      rintro e w24 ⟨rfl, b⟩
      have B24 := Lib.hid b
      clear b B23
      go_wp2_with fail
      refine (sIn B24.out (v := .slice A (G1.treeV v).length c) (V := G1.treeV v) (by simp) z).mono ?_
      rw [decide_eq_true HZA.out]
      rintro e w25 ⟨rfl, b⟩
      have B25 := Lib.hid b
      clear b B24
      go_wp2_with fail
      refine (sSame B25.out (v := .slice A22 (G1.treeV v).length c22) (v2 := .slice A (G1.treeV v).length c) (V := G1.treeV v) (by simp) (by simp)).mono ?_
      rintro e w26 ⟨rfl, b⟩
      have B26 := Lib.hid b
      clear b B25
      go_wp2_with fail
      refine (sCut B26.out id hi).mono ?_
      rw [HLC.out.1]
      rintro e w40 ⟨rfl, b⟩
      have B40 := Lib.hid b
      clear b B26
      have HLK2 := Lib.hid HLC.out.2.1
      have HLK3 := Lib.hid HLC.out.2.2
      obtain ⟨G2, hG2⟩ : ∃ G2, G2 = G1.cutA id := ⟨_, rfl⟩
      rw [← hG2] at B40 HLK2 HLK3
      clear hG2
      go_wp2_with fail
      refine (sHas B40.out id hi).mono ?_
      rw [decide_eq_false HLK3.out]
      rintro e w41 ⟨rfl, b⟩
      have B41 := Lib.hid b
      clear b B40
      go_wp2_with fail
      refine (sVerts B41.out u hu).mono ?_
      rw [HLK2.out.treeV, HLK2.out.errV]
      rintro e w42 ⟨A50, c50, rfl, b⟩
      have B42 := Lib.hid b
      clear b B41
      go_wp2_with fail
      refine (sVerts B42.out v hv).mono ?_
      rw [HLK2.out.treeV, HLK2.out.errV]
      rintro e w43 ⟨A51, c51, rfl, b⟩
      have B43 := Lib.hid b
      clear b B42
      go_wp2_with fail
      refine (sVerts B43.out z hz).mono ?_
      rw [HLK2.out.treeV, HLK2.out.errV]
      rintro e w44 ⟨A52, c52, rfl, b⟩
      have B44 := Lib.hid b
      clear b B43
      go_wp2_with fail
      refine (sEdges B44.out u hu).mono ?_
      rw [HLK2.out.treeE, HLK2.out.errV]
      rintro e w45 ⟨A53, c53, rfl, b⟩
      have B45 := Lib.hid b
      clear b B44
      go_wp2_with fail
      refine (sSame B45.out (v := .slice A50 (G.treeV u).length c50) (v2 := .slice A3 (G.treeV u).length c3) (V := G.treeV u) (by simp) (by simp)).mono ?_
      rintro e w46 ⟨rfl, b⟩
      have B46 := Lib.hid b
      clear b B45
      go_wp2_with fail
      refine (sSame B46.out (v := .slice A51 (G.treeV v).length c51) (v2 := .slice A4 nv c4) (V := G.treeV v) (by simp) (by simp)).mono ?_
      rintro e w47 ⟨rfl, b⟩
      have B47 := Lib.hid b
      clear b B46
      go_wp2_with fail
      refine (sSame B47.out (v := .slice A52 (G.treeV z).length c52) (v2 := .slice A5 (G.treeV z).length c5) (V := G.treeV z) (by simp) (by simp)).mono ?_
      rintro e w48 ⟨rfl, b⟩
      have B48 := Lib.hid b
      clear b B47
      go_wp2_with fail
      refine (sSame B48.out (v := .slice A6 (G.treeE u).length c6) (v2 := .slice A53 (G.treeE u).length c53) (V := G.treeE u) (by simp) (by simp)).mono ?_
      rintro e w49 ⟨rfl, b⟩
      have B49 := Lib.hid b
      clear b B48
      go_wp2_with fail
      go_ret
      exact ⟨rfl, B49.out.low⟩
    case neg =>
    have HZ := Lib.hid (HLO.out z hza)
    rw [HZ.out] at B23 ⊢
    have HZA := Lib.hid hza
    clear hza
    go_wp2_with fail
    refine (sIn B23.out (v := .slice A (G1.treeV v).length c) (V := G1.treeV v) (by simp) z).mono ?_
    rw [decide_eq_false HZA.out]
    rintro e w24 ⟨rfl, b⟩
    have B24 := Lib.hid b
    clear b B23
    go_wp2_with fail
    refine (sSame B24.out (v := .slice A22 (G.treeV z).length c22) (v2 := .slice A5 (G.treeV z).length c5) (V := G.treeV z) (by simp) (by simp)).mono ?_
    rintro e w25 ⟨rfl, b⟩
    have B25 := Lib.hid b
    clear b B24
    go_wp2_with fail
    refine (sIn B25.out (v := .slice A (G1.treeV v).length c) (V := G1.treeV v) (by simp) z).mono ?_
    rw [decide_eq_false HZA.out]
    rintro e w26 ⟨rfl, b⟩
    have B26 := Lib.hid b
    clear b B25
    go_wp2_with fail
    refine (sCut B26.out id hi).mono ?_
    rw [HLC.out.1]
    rintro e w40 ⟨rfl, b⟩
    have B40 := Lib.hid b
    clear b B26
    have HLK2 := Lib.hid HLC.out.2.1
    have HLK3 := Lib.hid HLC.out.2.2
    obtain ⟨G2, hG2⟩ : ∃ G2, G2 = G1.cutA id := ⟨_, rfl⟩
    rw [← hG2] at B40 HLK2 HLK3
    clear hG2
    go_wp2_with fail
    refine (sHas B40.out id hi).mono ?_
    rw [decide_eq_false HLK3.out]
    rintro e w41 ⟨rfl, b⟩
    have B41 := Lib.hid b
    clear b B40
    go_wp2_with fail
    refine (sVerts B41.out u hu).mono ?_
    rw [HLK2.out.treeV, HLK2.out.errV]
    rintro e w42 ⟨A50, c50, rfl, b⟩
    have B42 := Lib.hid b
    clear b B41
    go_wp2_with fail
    refine (sVerts B42.out v hv).mono ?_
    rw [HLK2.out.treeV, HLK2.out.errV]
    rintro e w43 ⟨A51, c51, rfl, b⟩
    have B43 := Lib.hid b
    clear b B42
    go_wp2_with fail
    refine (sVerts B43.out z hz).mono ?_
    rw [HLK2.out.treeV, HLK2.out.errV]
    rintro e w44 ⟨A52, c52, rfl, b⟩
    have B44 := Lib.hid b
    clear b B43
    go_wp2_with fail
    refine (sEdges B44.out u hu).mono ?_
    rw [HLK2.out.treeE, HLK2.out.errV]
    rintro e w45 ⟨A53, c53, rfl, b⟩
    have B45 := Lib.hid b
    clear b B44
    go_wp2_with fail
    refine (sSame B45.out (v := .slice A50 (G.treeV u).length c50) (v2 := .slice A3 (G.treeV u).length c3) (V := G.treeV u) (by simp) (by simp)).mono ?_
    rintro e w46 ⟨rfl, b⟩
    have B46 := Lib.hid b
    clear b B45
    go_wp2_with fail
    refine (sSame B46.out (v := .slice A51 (G.treeV v).length c51) (v2 := .slice A4 nv c4) (V := G.treeV v) (by simp) (by simp)).mono ?_
    rintro e w47 ⟨rfl, b⟩
    have B47 := Lib.hid b
    clear b B46
    go_wp2_with fail
    refine (sSame B47.out (v := .slice A52 (G.treeV z).length c52) (v2 := .slice A5 (G.treeV z).length c5) (V := G.treeV z) (by simp) (by simp)).mono ?_
    rintro e w48 ⟨rfl, b⟩
    have B48 := Lib.hid b
    clear b B47
    go_wp2_with fail
    refine (sSame B48.out (v := .slice A6 (G.treeE u).length c6) (v2 := .slice A53 (G.treeE u).length c53) (V := G.treeE u) (by simp) (by simp)).mono ?_
    rintro e w49 ⟨rfl, b⟩
    have B49 := Lib.hid b
    clear b B48
    go_wp2_with fail
    go_ret
    exact ⟨rfl, B49.out.low⟩

end Go.Proofs.Ytlakcldgolpaiaa
