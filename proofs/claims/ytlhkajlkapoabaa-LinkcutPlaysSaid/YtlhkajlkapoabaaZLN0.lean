/-
  Edges join vertices, as lists alone; rows of numbers with a number more or less.
-/
import Derived.Test.YtlhkajlkapoabaaZLM9
import Derived.Test.YtlhkajlkapoabaaZLL2
namespace Go.Proofs.Ytlhkajlkapoabaa
open Go.RowKit Go.Maps
set_option linter.unusedVariables false

/-- Edges join two vertices. -/
abbrev Conn (E : List Eg) (x y : Int) : Prop := LF.Join ⟨[], E⟩ x y

theorem etInts : ElemT 26 3 1 8 := etI

theorem below_drewN {B : Nat} {w w' : World} (h : Below B w w') (n : Nat) : Below B w (w'.drewN n) := ⟨h.os, h.tape, h.output, h.size, h.block⟩

theorem OK.shape {α : Type} {enc : α → List Value} {k E : Nat} {w : World} {B : Nat} {v : Value} {xs : List α} (h : OK enc k E w B v xs) (hl : 0 < xs.length) : ∃ b c, v = .slice (some ⟨b, 0, none⟩) xs.length c ∧ xs.length ≤ c ∧ c ≤ 9223372036854775807 := by
  rcases h.2.2 with ⟨e, h0⟩ | ⟨q, c, cur, e, _, _, h1, h2, _⟩
  · omega
  · exact ⟨q, c, e, h1, by simpa [maxLen] using h2⟩

theorem flat_setK {α : Type} {enc : α → List Value} {k : Nat} (hk : ∀ x, (enc x).length = k) : ∀ {xs : List α} {i j : Nat} {x x' : α} {u : Value}, xs[i]? = some x → j < k → enc x' = (enc x).set j u → (xs.flatMap enc).set (i * k + j) u = (xs.set i x').flatMap enc
  | [], i, j, x, x', u, hi, _, _ => by simp at hi
  | a :: r, 0, j, x, x', u, hi, hj, he => by
    simp at hi; subst hi
    rw [List.flatMap_cons, List.set_cons_zero, List.flatMap_cons, Nat.zero_mul, Nat.zero_add, List.set_append_left _ _ (by rw [hk]; exact hj), he]
  | a :: r, i + 1, j, x, x', u, hi, hj, he => by
    have hi' : r[i]? = some x := by simpa using hi
    rw [List.flatMap_cons, List.set_cons_succ, List.flatMap_cons, List.set_append_right _ _ (by rw [hk, Nat.add_mul]; omega), hk, show (i + 1) * k + j - k = i * k + j by rw [Nat.add_mul]; omega, flat_setK hk hi' hj he]

theorem OK.setK {α : Type} {enc : α → List Value} {k E : Nat} {w : World} {B b n c i j : Nat} {xs : List α} {x x' : α} {u : Value} (hk : ∀ x, (enc x).length = k) (h : OK enc k E w B (.slice (some ⟨b, 0, none⟩) n c) xs) (hi : xs[i]? = some x) (hj : j < k) (he : enc x' = (enc x).set j u) :
    OK enc k E (w.setCell ⟨b, i * k + j, none⟩ u) B (.slice (some ⟨b, 0, none⟩) n c) (xs.set i x') := by
  obtain ⟨h1, h2, h3⟩ := h
  rcases h3 with ⟨e, hn⟩ | ⟨g, cap, cur, e, hgB, hg, hnc, hcm, hsz, htk⟩
  · cases e
  · injection e with e1 e2 e3
    injection e1 with e1
    injection e1 with e1 e4
    subst e1 e2 e3
    have hblk : Blk w b E cur := hg
    have hlt := (List.getElem?_eq_some_iff.1 hi).1
    refine ⟨by rw [List.length_set]; exact h1, by rw [flat_len hk, List.length_set], .inr ⟨b, c, cur.setIfInBounds (i * k + j) u, by rw [List.length_set], hgB, hblk.set_ _ _, by rw [List.length_set]; exact hnc, hcm, by simpa using hsz, ?_⟩⟩
    rw [List.length_set, Array.toList_setIfInBounds, List.take_set, htk]
    exact flat_setK hk hi hj he

theorem OK.cellK {α : Type} {enc : α → List Value} {k E : Nat} {w : World} {B b n c i j : Nat} {xs : List α} {x : α} {u : Value} (hk : ∀ x, (enc x).length = k) (h : OK enc k E w B (.slice (some ⟨b, 0, none⟩) n c) xs) (hi : xs[i]? = some x) (hu : (enc x)[j]? = some u) : w.cell? ⟨b, i * k + j, none⟩ = some u := by
  obtain ⟨_, A, c', e, _, _, h5⟩ := h.rk hk (Nat.le_refl _)
  injection e with e1 e2 e3
  rcases h5 with h5 | ⟨b', off, e4, _, hc⟩
  · rw [h5] at hi; simp at hi
  · have hz : off = 0 := by
      rcases h.2.2 with ⟨e, _⟩ | ⟨g, cap, cur, e, _⟩
      · cases e
      · rw [e4] at e1; injection e1 with e1; injection e1
        omega
    rw [e4] at e1
    injection e1 with e1
    injection e1 with e1
    subst e1
    have := hc i x hi j u hu
    rw [hz, Nat.zero_add] at this
    exact this

theorem OK.frozenK {α : Type} {enc : α → List Value} {k E : Nat} {w : World} {B b o n c : Nat} {xs : List α} (h : OK enc k E w B (.slice (some ⟨b, o, none⟩) n c) xs) (i : Nat) : w.frozen? ⟨b, i, none⟩ = false := by
  rcases h.2.2 with ⟨e, _⟩ | ⟨g, cap, cur, e, _, hg, _⟩
  · cases e
  · injection e with e1
    injection e1 with e1
    injection e1 with e1 e2
    subst e1
    exact Blk.frozen (t := E) (cs := cur) hg i

theorem OK.blkNe {α : Type} {enc : α → List Value} {k E : Nat} {w : World} {B b o n c g t : Nat} {cs : Array Value} {xs : List α} (h : OK enc k E w B (.slice (some ⟨b, o, none⟩) n c) xs) (hb : Blk w g t cs) (hne : t ≠ E) : g ≠ b := by
  rcases h.2.2 with ⟨e, _⟩ | ⟨g', cap, cur, e, _, hg, _⟩
  · cases e
  · injection e with e1
    injection e1 with e1
    injection e1 with e1 e2
    subst e1
    exact hb.ne_ (t' := E) (cs' := cur) hg hne

def ids (es : List Eg) : List Int := es.map Eg.id

/-- The edge of an id. -/
def look (es : List Eg) (x : Int) : Eg := (es.find? fun e => e.id == x).getD Eg.zero

theorem look_no {es : List Eg} {x : Int} (h : x ∉ ids es) : look es x = Eg.zero := by
  unfold look
  rw [List.find?_eq_none.2 fun e he hh => h (List.mem_map.2 ⟨e, he, by simpa using hh⟩)]
  rfl

theorem look_at {es : List Eg} {x : Int} {k : Nat} {e : Eg} (h : x ∉ ids (es.take k)) (ht : es.take (k + 1) = es.take k ++ [e]) (hx : e.id = x) : look es x = e := by
  unfold look
  have h1 : es = es.take (k + 1) ++ es.drop (k + 1) := (List.take_append_drop _ _).symm
  rw [h1, ht, List.append_assoc, List.find?_append, List.find?_eq_none.2 fun e he hh => h (List.mem_map.2 ⟨e, he, by simpa using hh⟩)]
  have : (e.id == x) = true := by simpa using hx
  simp [this]

theorem OK.same {α : Type} {enc : α → List Value} {k E : Nat} {w w' : World} {B : Nat} {v : Value} {xs : List α} (h : OK enc k E w B v xs) (hb : ∀ b, v.ownBlock = some b → w'.heap[b]? = w.heap[b]?) : OK enc k E w' B v xs := by
  refine ⟨h.1, h.2.1, ?_⟩
  rcases h.2.2 with h3 | ⟨q, c, cur, e, hq, hh, r⟩
  · exact .inl h3
  · exact .inr ⟨q, c, cur, e, hq, (hb q (by rw [e]; rfl)).trans hh, r⟩

theorem conn_lf {F : LF} {x y : Int} : F.Join x y ↔ Conn F.es x y := ⟨fun h => LF.Join.mono (G := ⟨[], F.es⟩) h fun _ he => he, fun h => LF.Join.mono (F := ⟨[], F.es⟩) h fun _ he => he⟩

theorem conn_link {E : List Eg} {e : Eg} {x y : Int} : Conn (e :: E) x y ↔ Conn E x y ∨ (Conn E x e.u ∧ Conn E e.v y) ∨ (Conn E x e.v ∧ Conn E e.u y) := by
  have hm : ∀ a ∈ E, a ∈ e :: E := fun a ha => List.mem_cons_of_mem _ ha
  have h1 : Conn (e :: E) e.u e.v := LF.join_edge (F := ⟨[], e :: E⟩) (List.mem_cons_self ..)
  constructor
  · intro h
    induction h with
    | refl => exact .inl .refl
    | @step a b _ hab ih =>
      obtain ⟨z, hz, hab⟩ := hab
      rcases List.mem_cons.1 hz with rfl | hz
      · rcases hab with ⟨rfl, rfl⟩ | ⟨rfl, rfl⟩
        · rcases ih with k | ⟨k1, k2⟩ | ⟨k1, k2⟩
          · exact .inr (.inl ⟨k, .refl⟩)
          · exact .inr (.inl ⟨k1, .refl⟩)
          · exact .inl k1
        · rcases ih with k | ⟨k1, k2⟩ | ⟨k1, k2⟩
          · exact .inr (.inr ⟨k, .refl⟩)
          · exact .inl k1
          · exact .inr (.inr ⟨k1, .refl⟩)
      · have hs : LF.nx ⟨[], E⟩ a b := ⟨z, hz, hab⟩
        rcases ih with k | ⟨k1, k2⟩ | ⟨k1, k2⟩
        · exact .inl (.step k hs)
        · exact .inr (.inl ⟨k1, .step k2 hs⟩)
        · exact .inr (.inr ⟨k1, .step k2 hs⟩)
  · rintro (h | ⟨a, b⟩ | ⟨a, b⟩)
    · exact h.mono hm
    · exact (a.mono hm).trans (h1.trans (b.mono hm))
    · exact (a.mono hm).trans (h1.symm.trans (b.mono hm))


theorem filter_snoc (V : List Int) (k : Nat) (y x : Int) (h : V.take (k + 1) = V.take k ++ [y]) : (V.take (k + 1)).filter (· ≠ x) = if y = x then (V.take k).filter (· ≠ x) else (V.take k).filter (· ≠ x) ++ [y] := by
  rw [h, List.filter_append]
  by_cases hy : y = x
  · rw [if_pos hy]; simp [hy]
  · rw [if_neg hy]; simp [hy]

def WouRel (w : World) (V : List Int) (x : Int) (n : Nat) (t i : Value) (wr : World) : Prop :=
  ∃ k : Nat, k ≤ n ∧ i = .int .i64 k ∧ Below w.heap.size w wr ∧ OK encI 1 3 wr w.heap.size t ((V.take k).filter (· ≠ x))
set_option maxRecDepth 100000 in
set_option maxHeartbeats 2000000 in
theorem Without_any (v : Value) (V : List Int) (x : Int) (w : World) (B : Nat) (hv : RI w B v V) (hB : B ≤ w.heap.size) (hlen : V.length ≤ 100000) :
    Calls Try.prog 34 #[v, .int .i64 x] w fun e w' => ∃ v', e = .returned v' ∧ OK encI 1 3 w' w.heap.size v' (V.filter (· ≠ x)) ∧ Below w.heap.size w w' := by
  obtain ⟨A, c, rfl, hc1, hc2, hc3, HC⟩ := hv.open_
  clear hv
  obtain ⟨n, hn⟩ : ∃ n, n = V.length := ⟨_, rfl⟩
  rw [← hn] at hc1 hc3 hlen ⊢
  have HN := Lib.hid hn
  clear hn
  go_enter Try.func34, Try.ntmps34
  go_wp2
  go_loopw [5, 6] (fun t i wr => WouRel w V x n t i wr) (fun _ i wr => n - (intOf i).toNat)
  case atStart =>
    refine ⟨0, Nat.zero_le _, rfl, (Below.refl _ _).alloc (Nat.le_refl _) _, ?_⟩
    rw [List.take_zero]
    exact ⟨by simp, World.ownsRow_lit w #[] 0 (by omega) (by decide) rfl⟩
  case round =>
    obtain ⟨k, hk, rfl, hbel, ho⟩ := hrel
    have HB := Lib.hid hbel
    have HO := Lib.hid ho
    have hz := hbel.size
    by_cases hlt : k < n
    · obtain ⟨b, o, rfl, hb, hx⟩ := HC.out k (by have := HN.out; omega)
      obtain ⟨y, hy⟩ : ∃ y, y = V[k]'(by have := HN.out; omega) := ⟨_, rfl⟩
      have hT : V.take (k + 1) = V.take k ++ [y] := by rw [List.take_succ_eq_append_getElem (by have := HN.out; omega), ← hy]
      have hl : ((V.take k).filter (· ≠ x)).length ≤ k := Nat.le_trans (List.length_filter_le _ _) (List.length_take_le _ _)
      rw [← hy] at hx
      have hx := cellI hx
      have HT := Lib.hid (filter_snoc V k y x hT)
      have HL := Lib.hid hl
      have hx := (hbel.cell (p := ⟨b, o + k, none⟩) (by show b < _; omega)).trans hx
      have HLo := Lib.hid HO.out.lt
      clear hy hT hl hbel ho
      by_cases hyx : y = x
      · have hyd : (y != x) = false := by simpa using hyx
        go_wp2_with fail
        go_roundw
        case rel =>
          refine ⟨k + 1, by omega, by go_num, HB.out, ?_⟩
          rw [HT.out, if_pos hyx]; exact HO.out
        case measure => simp [intOf]; omega
      · have hyd : (y != x) = true := by simpa using hyx
        go_wp2_with (at_builtin; refine wpList_appE etInts encI_len encI_one (y := y) rfl (.tmp 20) (.tmp 25) rfl rfl (HO.out.alloc _) wr.heap.size rfl (oneI wr y _) (by have := HL.out; omega) (by simp; omega) ?_; intro v' w5 ho5 hg5 hb5; have HO5 := Lib.hid ho5; have HG5 := Lib.hid hg5; clear ho5 hg5 hb5)
        go_roundw
        case rel =>
          refine ⟨k + 1, by omega, by go_num, (HB.out.alloc (by omega) _).grown HG5.out (by simp; omega) (fun q hq => (HLo.out q hq).1), ?_⟩
          rw [HT.out, if_neg hyx]; exact HO5.out
        case measure => simp [intOf]; omega
    · obtain rfl : k = n := by omega
      clear hbel ho
      go_wp2
      go_ret
      refine ⟨_, rfl, ?_, HB.out⟩
      have := HO.out
      rw [HN.out, List.take_length] at this
      exact this


/-- A number put into a list ahead of the first that is greater. -/
def insI (n : Int) : List Int → List Int
  | [] => [n]
  | x :: r => if n < x then n :: x :: r else x :: insI n r

theorem insI_cons (n x : Int) (r : List Int) : insI n (x :: r) = if n < x then n :: x :: r else x :: insI n r := rfl

def WitRel (w : World) (V : List Int) (x : Int) (n : Nat) (t d i : Value) (wr : World) : Prop :=
  ∃ (k : Nat) (q : Bool) (O : List Int), k ≤ n ∧ O.length ≤ 2 * k ∧ i = .int .i64 k ∧ d = .bool q ∧ Below w.heap.size w wr ∧ OK encI 1 3 wr w.heap.size t O ∧ O ++ (if q then V.drop k else insI x (V.drop k)) = insI x V
set_option maxRecDepth 100000 in
set_option maxHeartbeats 4000000 in
theorem With_any (v : Value) (V : List Int) (x : Int) (w : World) (B : Nat) (hv : RI w B v V) (hB : B ≤ w.heap.size) (hlen : V.length ≤ 100000) :
    Calls Try.prog 33 #[v, .int .i64 x] w fun e w' => ∃ v', e = .returned v' ∧ OK encI 1 3 w' w.heap.size v' (insI x V) ∧ Below w.heap.size w w' := by
  obtain ⟨A, c, rfl, hc1, hc2, hc3, HC⟩ := hv.open_
  clear hv
  obtain ⟨n, hn⟩ : ∃ n, n = V.length := ⟨_, rfl⟩
  rw [← hn] at hc1 hc3 hlen ⊢
  have HN := Lib.hid hn
  clear hn
  go_enter Try.func33, Try.ntmps33
  go_wp2
  go_loopw [5, 6, 7] (fun t d i wr => WitRel w V x n t d i wr) (fun _ _ i wr => n - (intOf i).toNat)
  case atStart =>
    refine ⟨0, false, [], Nat.zero_le _, by simp, rfl, rfl, (Below.refl _ _).alloc (Nat.le_refl _) _, ?_, rfl⟩
    exact ⟨by simp, World.ownsRow_lit w #[] 0 (by omega) (by decide) rfl⟩
  case round =>
    obtain ⟨k, q, O, hk, hol, rfl, rfl, hbel, ho, hins⟩ := hrel
    have HB := Lib.hid hbel
    have HO := Lib.hid ho
    have HI := Lib.hid hins
    have hz := hbel.size
    by_cases hlt : k < n
    · obtain ⟨b, o, rfl, hb, hx⟩ := HC.out k (by have := HN.out; omega)
      obtain ⟨y, hy⟩ : ∃ y, y = V[k]'(by have := HN.out; omega) := ⟨_, rfl⟩
      have hT : V.drop k = y :: V.drop (k + 1) := by rw [List.drop_eq_getElem_cons (by have := HN.out; omega), ← hy]
      rw [← hy] at hx
      have hx := cellI hx
      have HT := Lib.hid hT
      have HX0 := Lib.hid hx
      have hx := (hbel.cell (p := ⟨b, o + k, none⟩) (by show b < _; omega)).trans hx
      have HLo := Lib.hid HO.out.lt
      have hxy : (decide (x < y)) = (decide (x < y)) := rfl
      have HL := Lib.hid hol
      clear hy hT hbel ho hins hxy
      cases q with
      | true =>
        go_wp2_with (at_builtin; refine wpList_appE etInts encI_len encI_one (y := y) rfl (.tmp 29) (.tmp 34) rfl rfl (OK.alloc (w := wr) HO.out _) wr.heap.size rfl (oneI wr y _) (by have := HL.out; simp; omega) (by simp; omega) ?_; intro v5 w5 ho5 hg5 hb5; have HO5 := Lib.hid ho5; have HG5 := Lib.hid hg5; clear ho5 hg5 hb5)
        go_roundw
        case measure => simp [intOf]; omega
        case rel =>
          refine ⟨k + 1, true, O ++ [y], by omega, by simp; omega, by go_num, rfl, Below.grown (Below.alloc HB.out (by omega) _) HG5.out (by simp; omega) (fun q hq => (HLo.out q hq).1), HO5.out, ?_⟩
          have := HI.out
          rw [if_pos rfl, HT.out] at this
          rw [if_pos rfl, List.append_assoc]; exact this
      | false =>
        by_cases hxy : x < y
        · have hd := decide_eq_true hxy
          have HXY := Lib.hid hxy
          go_wp2_with (first | (at_builtin; refine wpList_appE etInts encI_len encI_one (y := x) rfl (.tmp 25) (.tmp 27) rfl rfl (OK.alloc (w := wr) HO.out _) wr.heap.size rfl (oneI wr x _) (by have := HL.out; simp; omega) (by simp; omega) ?_; intro v5 w5 ho5 hg5 hb5; have HO5 := Lib.hid ho5; have HG5 := Lib.hid hg5; clear ho5 hg5 hb5; have HB5 := Lib.hid (Below.grown (Below.alloc HB.out (by omega) _) HG5.out (by simp; omega) (fun q hq => (HLo.out q hq).1)); have hx := (HB5.out.cell (p := ⟨b, o + k, none⟩) (by show b < _; omega)).trans HX0.out; have HLo5 := Lib.hid HO5.out.lt; have hz5 := HB5.out.size) | (at_builtin; refine wpList_appE etInts encI_len encI_one (y := y) rfl (.tmp 29) (.tmp 34) rfl rfl (OK.alloc (w := w5) HO5.out _) w5.heap.size rfl (oneI w5 y _) (by have := HL.out; simp; omega) (by simp; omega) ?_; intro v6 w6 ho6 hg6 hb6; have HO6 := Lib.hid ho6; have HG6 := Lib.hid hg6; clear ho6 hg6 hb6))
          go_roundw
          case measure => simp [intOf]; omega
          case rel =>
            refine ⟨k + 1, true, O ++ [x] ++ [y], by omega, by simp; omega, by go_num, rfl, Below.grown (Below.alloc HB5.out (by omega) _) HG6.out (by simp; omega) (fun q hq => (HLo5.out q hq).1), HO6.out, ?_⟩
            have := HI.out
            rw [if_neg (by decide), HT.out] at this
            rw [insI_cons, if_pos HXY.out] at this
            rw [if_pos rfl, List.append_assoc, List.append_assoc]; exact this
        · have hd := decide_eq_false hxy
          have HXY := Lib.hid hxy
          go_wp2_with (at_builtin; refine wpList_appE etInts encI_len encI_one (y := y) rfl (.tmp 29) (.tmp 34) rfl rfl (OK.alloc (w := wr) HO.out _) wr.heap.size rfl (oneI wr y _) (by have := HL.out; simp; omega) (by simp; omega) ?_; intro v5 w5 ho5 hg5 hb5; have HO5 := Lib.hid ho5; have HG5 := Lib.hid hg5; clear ho5 hg5 hb5)
          go_roundw
          case measure => simp [intOf]; omega
          case rel =>
            refine ⟨k + 1, false, O ++ [y], by omega, by simp; omega, by go_num, rfl, Below.grown (Below.alloc HB.out (by omega) _) HG5.out (by simp; omega) (fun q hq => (HLo.out q hq).1), HO5.out, ?_⟩
            have := HI.out
            rw [if_neg (by decide), HT.out] at this
            rw [insI_cons, if_neg HXY.out] at this
            rw [if_neg (by decide), List.append_assoc]; exact this
    · obtain rfl : k = n := by omega
      have HL := Lib.hid hol
      have HLo := Lib.hid HO.out.lt
      clear hbel ho hins
      cases q with
      | true =>
        have HF : Hid (O = insI x V) := by
          have := HI.out
          rw [if_pos rfl, HN.out, List.drop_length, List.append_nil] at this
          exact this
        obtain ⟨At, ct, rfl, -, -, -, -⟩ := (HO.out.rk encI_len (Nat.le_refl _)).open_
        go_wp2
        go_ret
        exact ⟨_, rfl, by rw [← HF.out]; exact HO.out, HB.out⟩
      | false =>
        have HF : Hid (O ++ [x] = insI x V) := by
          have := HI.out
          rw [if_neg (by decide), HN.out, List.drop_length] at this
          exact this
        go_wp2_with (at_builtin; refine wpList_appE etInts encI_len encI_one (y := x) rfl (.tmp 38) (.tmp 40) rfl rfl (OK.alloc (w := wr) HO.out _) wr.heap.size rfl (oneI wr x _) (by have := HL.out; omega) (by simp; omega) ?_; intro v5 w5 ho5 hg5 hb5; have HO5 := Lib.hid ho5; have HG5 := Lib.hid hg5; clear ho5 hg5 hb5)
        go_ret
        exact ⟨_, rfl, by rw [← HF.out]; exact HO5.out, Below.grown (Below.alloc HB.out (by omega) _) HG5.out (by simp; omega) (fun q hq => (HLo.out q hq).1)⟩
end Go.Proofs.Ytlhkajlkapoabaa

/-
  The document's sets: numbers as labels, in plain words; skeinref06.place.
-/
namespace Go.Proofs.Ytlhkajlkapoabaa
open Go.RowKit Go.Maps
set_option linter.unusedVariables false

/-- A row beside distinct vertices is a label of each. -/
theorem label_of : ∀ {V s : List Int}, V.Nodup → s.length = V.length → ∃ L : Int → Int, V.map L = s
  | [], [], _, _ => ⟨fun _ => 0, rfl⟩
  | [], _ :: _, _, h => by simp at h
  | _ :: _, [], _, h => by simp at h
  | x :: V, t :: s, hn, hl => by
    obtain ⟨h1, h2⟩ := List.nodup_cons.1 hn
    obtain ⟨L, hL⟩ := label_of (V := V) (s := s) h2 (by simpa using hl)
    refine ⟨fun z => if z = x then t else L z, ?_⟩
    rw [List.map_cons, if_pos rfl]
    congr 1
    rw [← hL]
    refine List.map_congr_left fun z hz => ?_
    rw [if_neg (fun e => h1 (by rw [← e]; exact hz))]

theorem inj_of_nodup {L : Int → Int} : ∀ {V : List Int}, (V.map L).Nodup → ∀ x ∈ V, ∀ y ∈ V, L x = L y → x = y
  | [], _, x, hx, _, _, _ => by cases hx
  | a :: V, hn, x, hx, y, hy, e => by
    obtain ⟨h1, h2⟩ : L a ∉ V.map L ∧ (V.map L).Nodup := List.nodup_cons.1 hn
    rcases List.mem_cons.1 hx with hxa | hxa <;> rcases List.mem_cons.1 hy with hya | hya
    · rw [hxa, hya]
    · exact absurd (show L a ∈ V.map L from List.mem_map.2 ⟨y, hya, by rw [← e, hxa]⟩) h1
    · exact absurd (show L a ∈ V.map L from List.mem_map.2 ⟨x, hxa, by rw [e, hya]⟩) h1
    · exact inj_of_nodup h2 x hxa y hya e

/-- Two vertices bear one label just if edges join them. -/
def Lab (V : List Int) (L : Int → Int) (E : List Eg) : Prop := ∀ x ∈ V, ∀ y ∈ V, L x = L y ↔ Conn E x y

/-- Label b gives way to a. -/
def relab (L : Int → Int) (a b : Int) : Int → Int := fun z => if L z = b then a else L z

theorem lab_step {V : List Int} {L : Int → Int} {E E' : List Eg} {ed : Eg} {p q a b : Int} (hep : ed.u = p) (heq : ed.v = q) (h : Lab V L E) (hp : p ∈ V) (hq : q ∈ V) (hE : ∀ e, e ∈ E' ↔ e ∈ ed :: E) (hab : a = L p ∧ b = L q ∨ a = L q ∧ b = L p) : Lab V (relab L a b) E' := by
  intro x hx y hy
  have hc : Conn E' x y ↔ Conn (ed :: E) x y := ⟨fun e => e.mono fun e he => (hE e).1 he, fun e => e.mono fun e he => (hE e).2 he⟩
  subst hep heq
  rw [hc, conn_link, ← h x hx y hy, ← h x hx _ hp, ← h _ hq y hy, ← h x hx _ hq, ← h _ hp y hy]
  unfold relab
  rcases hab with ⟨rfl, rfl⟩ | ⟨rfl, rfl⟩
  · split <;> split <;> omega
  · split <;> split <;> omega

theorem conn_nil {x y : Int} (h : Conn [] x y) : x = y := by
  cases h with
  | refl => rfl
  | step _ he => obtain ⟨_, he, _⟩ := he; cases he

/-- Labels as they start: all different. -/
theorem lab_start {V s : List Int} (hn : V.Nodup) (hs : s.Nodup) (hl : s.length = V.length) : ∃ L, V.map L = s ∧ Lab V L [] := by
  obtain ⟨L, hL⟩ := label_of hn hl
  refine ⟨L, hL, fun x hx y hy => ⟨fun e => ?_, fun e => by rw [conn_nil e]⟩⟩
  rw [inj_of_nodup (V := V) (L := L) (by rw [hL]; exact hs) x hx y hy e]
  exact .refl

/-- Part of a row is told anew. -/
def relabTo (V : List Int) (L : Int → Int) (a b : Int) (k : Nat) : List Int := (V.take k).map (relab L a b) ++ (V.drop k).map L

theorem relabTo_zero (V : List Int) (L : Int → Int) (a b : Int) : relabTo V L a b 0 = V.map L := by unfold relabTo; simp

theorem relabTo_all {V : List Int} {L : Int → Int} {a b : Int} {k : Nat} (hk : V.length ≤ k) : relabTo V L a b k = V.map (relab L a b) := by
  unfold relabTo
  rw [List.take_of_length_le hk, List.drop_eq_nil_of_le hk]; simp

theorem relabTo_len (V : List Int) (L : Int → Int) (a b : Int) (k : Nat) : (relabTo V L a b k).length = V.length := by
  unfold relabTo
  rw [List.length_append, List.length_map, List.length_map, ← List.length_append, List.take_append_drop]

theorem relabTo_at {V : List Int} {L : Int → Int} {a b : Int} {k : Nat} {x : Int} (hx : V[k]? = some x) : (relabTo V L a b k)[k]? = some (L x) := by
  obtain ⟨hk, he⟩ := List.getElem?_eq_some_iff.1 hx
  unfold relabTo
  rw [List.getElem?_append_right (by simp; omega), List.length_map, List.length_take, Nat.min_eq_left (by omega), Nat.sub_self, List.drop_eq_getElem_cons hk, he]
  rfl

theorem relabTo_succ {V : List Int} {L : Int → Int} {a b : Int} {k : Nat} {x : Int} (hx : V[k]? = some x) : relabTo V L a b (k + 1) = (relabTo V L a b k).set k (relab L a b x) := by
  obtain ⟨hk, he⟩ := List.getElem?_eq_some_iff.1 hx
  unfold relabTo
  rw [List.set_append_right _ _ (by simp; omega), List.length_map, List.length_take, Nat.min_eq_left (by omega), Nat.sub_self, List.drop_eq_getElem_cons hk, he, List.map_cons, List.set_cons_zero, List.take_succ_eq_append_getElem hk, he, List.map_append, List.append_assoc]
  rfl

theorem relab_eq (L : Int → Int) (a : Int) : relab L a a = L := by funext z; unfold relab; split <;> simp_all

set_option maxRecDepth 100000 in
set_option maxHeartbeats 2000000 in
theorem place_at (v : Value) (V : List Int) (x : Int) (w : World) (B : Nat) (hv : RI w B v V) (hn : V.Nodup) (m : Nat) (hx : V[m]? = some x) :
    Calls Try.prog 55 #[v, .int .i64 x] w fun e w' => e = .returned (.int .i64 (m : Nat)) ∧ w' = w := by
  obtain ⟨A, c, rfl, hc1, hc2, hc3, HC⟩ := hv.open_
  clear hv
  obtain ⟨hm, hmx⟩ := List.getElem?_eq_some_iff.1 hx
  obtain ⟨n, hnn⟩ : ∃ n, n = V.length := ⟨_, rfl⟩
  rw [← hnn] at hc1 hc3 ⊢
  have HN := Lib.hid hnn
  have HS := Lib.hid hn
  have HM := Lib.hid hmx
  have hmn : m < n := by omega
  clear hn hnn hmx hx
  go_enter Try.func55, Try.ntmps55
  go_wp2
  go_loop [5] (fun i => ∃ k : Nat, k ≤ m ∧ i = .int .i64 k) (fun i => n - (intOf i).toNat)
  case atStart => exact ⟨0, Nat.zero_le _, rfl⟩
  case round =>
    obtain ⟨k, hk, rfl⟩ := hrel
    obtain ⟨b, o, rfl, hb, hx⟩ := HC.out k (by have := HN.out; omega)
    have hx := cellI hx
    obtain ⟨y, hy⟩ : ∃ y, y = V[k]'(by have := HN.out; omega) := ⟨_, rfl⟩
    rw [← hy] at hx
    by_cases hlt : k < m
    · have hne : ¬ y = x := by
        have h1 := (List.pairwise_iff_getElem.1 HS.out) k m (by omega) hm hlt
        rw [HM.out, ← hy] at h1
        exact h1
      clear hy
      go_wp2
      go_round
      case rel => exact ⟨k + 1, by omega, by go_num⟩
      case measure => simp [intOf]; omega
    · obtain rfl : k = m := by omega
      have hye : y = x := by rw [hy, HM.out]
      clear hy
      subst hye
      go_wp2
      go_ret
      exact ⟨rfl, rfl⟩

end Go.Proofs.Ytlhkajlkapoabaa

/-
  skeinref06's Sets: one label for all that edges join.
-/
namespace Go.Proofs.Ytlhkajlkapoabaa
open Go.RowKit Go.Maps
set_option linter.unusedVariables false

/-- An edge of the document's forest: its cells. -/
def encD (e : Eg) : List Value := [.int .i64 e.id, .int .i64 e.u, .int .i64 e.v, .int .i64 (e.w : Int)]

theorem encD_len (e : Eg) : (encD e).length = 4 := rfl

theorem cellD {w : World} {b off i : Nat} {e : Eg} (h : ∀ (j : Nat) u, (encD e)[j]? = some u → w.cell? ⟨b, off + i * 4 + j, none⟩ = some u) :
    w.cell? ⟨b, off + i * 4, none⟩ = some (.int .i64 e.id) ∧ w.cell? ⟨b, off + i * 4 + 1, none⟩ = some (.int .i64 e.u) ∧ w.cell? ⟨b, off + i * 4 + 2, none⟩ = some (.int .i64 e.v) ∧ w.cell? ⟨b, off + i * 4 + 3, none⟩ = some (.int .i64 (e.w : Int)) :=
  ⟨h 0 _ rfl, h 1 _ rfl, h 2 _ rfl, h 3 _ rfl⟩

def rng (k : Nat) : List Int := (List.range k).map fun i : Nat => (i : Int)

theorem rng_succ (k : Nat) : rng (k + 1) = rng k ++ [(k : Int)] := by unfold rng; rw [List.range_succ, List.map_append]; rfl

theorem rng_len (k : Nat) : (rng k).length = k := by unfold rng; simp

theorem rng_nodup (k : Nat) : (rng k).Nodup := by
  unfold rng
  refine List.Pairwise.map _ (fun a b h => ?_) (List.nodup_range (n := k))
  intro e
  exact h (by exact_mod_cast e)

theorem set_back {xs : List Int} {k : Nat} {y : Int} (h : xs[k]? = some y) : xs.set k y = xs := by
  refine List.ext_getElem? fun i => ?_
  rw [List.getElem?_set]
  split
  · rename_i e
    subst e
    obtain ⟨h1, h2⟩ := List.getElem?_eq_some_iff.1 h
    rw [if_pos h1, h]
  · rfl

theorem relabTo_skip {V : List Int} {L : Int → Int} {a b : Int} {k : Nat} {x : Int} (hx : V[k]? = some x) (hne : L x ≠ b) : relabTo V L a b (k + 1) = relabTo V L a b k := by
  rw [relabTo_succ hx]
  unfold relab
  rw [if_neg hne]
  exact set_back (relabTo_at hx)

theorem relabTo_hit {V : List Int} {L : Int → Int} {a b : Int} {k : Nat} {x : Int} (hx : V[k]? = some x) (he : L x = b) : relabTo V L a b (k + 1) = (relabTo V L a b k).set k a := by
  rw [relabTo_succ hx]
  unfold relab
  rw [if_pos he]

theorem relabTo_eq (V : List Int) (L : Int → Int) (a : Int) (k : Nat) : relabTo V L a a k = V.map L := by
  unfold relabTo
  rw [relab_eq, ← List.map_append, List.take_append_drop]

theorem encI_set (x u : Int) : encI u = (encI x).set 0 (.int .i64 u) := rfl

set_option maxRecDepth 100000 in
set_option maxHeartbeats 4000000 in
theorem Sets_any (v ve : Value) (V : List Int) (es : List Eg) (w : World) (hv : RI w w.heap.size v V) (he : RK encD 4 w w.heap.size ve es) (hn : V.Nodup) (hin : ∀ e ∈ es, e.u ∈ V ∧ e.v ∈ V) (hl : V.length ≤ 100000) (hle : es.length ≤ 100000) :
    Calls Try.prog 54 #[v, ve] w fun e w' => ∃ x L, e = .returned x ∧ Lab V L es ∧ OK encI 1 3 w' w.heap.size x (V.map L) ∧ Below w.heap.size w w' := by
  have HV := Lib.hid hv
  obtain ⟨A, c, rfl, -, hc2, -, HC⟩ := hv.open_
  obtain ⟨A2, c2, rfl, -, hd2, -, HD⟩ := he.open_
  clear hv he
  obtain ⟨n, hnn⟩ : ∃ n, n = V.length := ⟨_, rfl⟩
  obtain ⟨m, hmm⟩ : ∃ m, m = es.length := ⟨_, rfl⟩
  rw [← hnn] at hl HV ⊢
  rw [← hmm] at hle ⊢
  have HN := Lib.hid hnn
  have HM := Lib.hid hmm
  have HND := Lib.hid hn
  have HIN := Lib.hid hin
  clear hn hnn hmm hin
  go_enter Try.func54, Try.ntmps54
  go_wp2
  go_loopw [5, 6] (fun t i wr => ∃ k : Nat, k ≤ n ∧ i = .int .i64 k ∧ Below w.heap.size w wr ∧ OK encI 1 3 wr w.heap.size t (rng k)) (fun _ i wr => n - (intOf i).toNat)
  case atStart =>
    refine ⟨0, Nat.zero_le _, rfl, (Below.refl _ _).alloc (Nat.le_refl _) _, ?_⟩
    exact ⟨by simp [rng], World.ownsRow_lit w #[] 0 (by omega) (by decide) rfl⟩
  case round =>
    obtain ⟨k, hk, rfl, hbel, ho⟩ := hrel
    have HB := Lib.hid hbel
    have HO := Lib.hid ho
    have hz := hbel.size
    have HLo := Lib.hid HO.out.lt
    clear hbel ho
    by_cases hlt : k < n
    · have HLN := Lib.hid (rng_len k)
      have HS := Lib.hid (rng_succ k)
      go_wp2_with (at_builtin; refine wpList_appE etInts encI_len encI_one (y := (k : Int)) rfl (.tmp 19) (.tmp 21) rfl rfl (HO.out.alloc _) wr.heap.size rfl (oneI wr _ _) (by have := HLN.out; omega) (by simp; omega) ?_; intro v' w5 ho5 hg5 hb5; have HO5 := Lib.hid ho5; have HG5 := Lib.hid hg5; clear ho5 hg5 hb5)
      go_roundw
      case rel =>
        refine ⟨k + 1, by omega, by go_num, (HB.out.alloc (by omega) _).grown HG5.out (by simp; omega) (fun q hq => (HLo.out q hq).1), ?_⟩
        rw [HS.out]; exact HO5.out
      case measure => simp [intOf]; omega
    · obtain rfl : k = n := by omega
      obtain ⟨L0, hL0, hLab0⟩ := lab_start HND.out (rng_nodup k) (by rw [rng_len]; exact HN.out)
      have HLAB := Lib.hid hLab0
      have HO2 := HO
      rw [← hL0] at HO2
      obtain ⟨At, ct, ht, -, -, -, -⟩ := (HO2.out.rk encI_len (Nat.le_refl _)).open_
      have hln : (V.map L0).length = k := by rw [List.length_map]; exact HN.out.symm
      rw [hln] at ht
      subst ht
      clear hL0 hLab0 HO HLo hln
      go_wp2_with fail
      go_loopw [7] (fun i wr => ∃ (j : Nat) (L : Int → Int), j ≤ m ∧ i = .int .i64 j ∧ Hid (Lab V L (es.take j)) ∧ Hid (Below w.heap.size w wr) ∧ Hid (OK encI 1 3 wr w.heap.size (.slice At k ct) (V.map L))) (fun i _ => m - (intOf i).toNat)
      case atStart => exact ⟨0, L0, Nat.zero_le _, rfl, HLAB, HB, HO2⟩
      case round =>
        clear HB HO2 HLAB hz
        obtain ⟨j, L, hj, rfl, HLAB, HB, HO⟩ := hrel
        have hz := HB.out.size
        by_cases hjm : j < m
        · have hje : j < es.length := by have := HM.out; omega
          obtain ⟨b2, o2, rfl, hb2, hx⟩ := HD.out j hje
          obtain ⟨⟨id, p, q, wt⟩, hy⟩ : ∃ y, y = es[j] := ⟨_, rfl⟩
          have HTK := Lib.hid (List.take_succ_eq_append_getElem hje)
          have HY := Lib.hid (List.getElem_mem hje)
          rw [← hy] at hx HTK HY
          obtain ⟨-, x1, x2, -⟩ := cellD hx
          dsimp only at x1 x2
          have x1 := (HB.out.cell (p := ⟨b2, o2 + j * 4 + 1, none⟩) hb2).trans x1
          have x2 := (HB.out.cell (p := ⟨b2, o2 + j * 4 + 2, none⟩) hb2).trans x2
          obtain ⟨hp, hq⟩ := HIN.out _ HY.out
          obtain ⟨pi, hpi⟩ := List.mem_iff_getElem?.1 hp
          obtain ⟨qi, hqi⟩ := List.mem_iff_getElem?.1 hq
          dsimp only at hp hq hpi hqi
          have HP := Lib.hid hp
          have HQ := Lib.hid hq
          have HPI := Lib.hid hpi
          have HQI := Lib.hid hqi
          have hpn : pi < k := by have := (List.getElem?_eq_some_iff.1 hpi).1; have := HN.out; omega
          have hqn : qi < k := by have := (List.getElem?_eq_some_iff.1 hqi).1; have := HN.out; omega
          obtain ⟨b5, c5, hsh, -, -⟩ := HO.out.shape (by rw [List.length_map, ← HN.out]; omega)
          injection hsh with hs1 hs2 hs3
          subst hs1 hs3
          clear hs2 hx hy hp hq hpi hqi
          have y1 : wr.cell? ⟨b5, pi, none⟩ = some (.int .i64 (L p)) := by
            have := HO.out.cellK encI_len (i := pi) (j := 0) (x := L p) (by rw [List.getElem?_map, HPI.out]; rfl) rfl
            simpa using this
          have y2 : wr.cell? ⟨b5, qi, none⟩ = some (.int .i64 (L q)) := by
            have := HO.out.cellK encI_len (i := qi) (j := 0) (x := L q) (by rw [List.getElem?_map, HQI.out]; rfl) rfl
            simpa using this
          have HVR := Lib.hid (HV.out.below HB.out)
          have HP1 := Lib.hid fun n => Calls.quiet_of_same (w := wr) (n := n) (place_at _ V p _ _ (HVR.out.drewN n) HND.out pi HPI.out)
          have HP2 := Lib.hid fun n => Calls.quiet_of_same (w := wr) (n := n) (place_at _ V q _ _ (HVR.out.drewN n) HND.out qi HQI.out)
          obtain ⟨la, hla⟩ : ∃ a, a = L p := ⟨_, rfl⟩
          obtain ⟨lb, hlb⟩ : ∃ b, b = L q := ⟨_, rfl⟩
          rw [← hla] at y1
          rw [← hlb] at y2
          have HLA := Lib.hid hla
          have HLB := Lib.hid hlb
          clear hla hlb
          have hjn : decide ((j : Int) < (m : Int)) = true := by simpa using hjm
          have hpd : (pi : Int) < (k : Int) := by omega
          have hqd : (qi : Int) < (k : Int) := by omega
          go_wp2_with fail
          go_quiet (first
            | (go_at_call 55; with_reducible exact HP1.out _)
            | (go_at_call 55; with_reducible exact HP2.out _))
          have HBd : Hid (Below w.heap.size w (wr.drewN nq)) := Lib.hid (below_drewN HB.out nq)
          have HOd : Hid (OK encI 1 3 (wr.drewN nq) w.heap.size (.slice (some ⟨b5, 0, none⟩) k ct) (V.map L)) := Lib.hid (HO.out.drewN nq)
          obtain ⟨wd, hwd⟩ : ∃ wd, wd = wr.drewN nq := ⟨_, rfl⟩
          rw [← hwd] at HBd HOd ⊢
          clear hwd y1 y2 x1 x2 HB HO HVR HP1 HP2 hpd hqd
          have hkj : j ≤ 100000 := by omega
          by_cases hgt : la > lb
          · have hgd : decide (la > lb) = true := by simpa using hgt
            go_wp2_with fail
            go_loopw [11] (fun i wr => ∃ i2 : Nat, i2 ≤ k ∧ i = .int .i64 i2 ∧ Hid (Below w.heap.size w wr) ∧ Hid (OK encI 1 3 wr w.heap.size (.slice (some ⟨b5, 0, none⟩) k ct) (relabTo V L lb la i2))) (fun i _ => k - (intOf i).toNat)
            case atStart => exact ⟨0, Nat.zero_le _, rfl, HBd, Lib.hid (by rw [relabTo_zero]; exact HOd.out)⟩
            case round =>
              clear HBd HOd
              obtain ⟨i2, hi2, rfl, HB, HO⟩ := hrel
              have hab : lb ≠ la := by omega
              have hne : (lb != la) = true := by simpa using hab
              by_cases hik : i2 < k
              · have hiv : i2 < V.length := by have := HN.out; omega
                obtain ⟨x, hx⟩ : ∃ x, x = V[i2] := ⟨_, rfl⟩
                have HXV : Hid (V[i2]? = some x) := Lib.hid (List.getElem?_eq_some_iff.2 ⟨hiv, hx.symm⟩)
                clear hx
                obtain ⟨lx, hlx⟩ : ∃ l, l = L x := ⟨_, rfl⟩
                have y3 : wr.cell? ⟨b5, i2, none⟩ = some (.int .i64 lx) := by
                  have := HO.out.cellK encI_len (i := i2) (j := 0) (x := L x) (relabTo_at HXV.out) rfl
                  rw [← hlx] at this
                  simpa using this
                have y4 : wr.frozen? ⟨b5, i2, none⟩ = false := HO.out.frozenK i2
                have HLX := Lib.hid hlx
                have HLO := Lib.hid ((HO.out.lt b5 rfl).1)
                clear hlx
                have hkd : decide ((i2 : Int) < (k : Int)) = true := by simpa using hik
                have hik2 : (i2 : Int) < (k : Int) := by omega
                by_cases hxb : lx = la
                · have hxd : (lx == la) = true := by simpa using hxb
                  go_wp2_with fail
                  go_roundw
                  case rel =>
                    refine ⟨i2 + 1, by omega, by go_num, Lib.hid (HB.out.setCell (p := ⟨b5, i2, none⟩) HLO.out _), Lib.hid ?_⟩
                    rw [relabTo_hit HXV.out (by rw [← HLX.out]; exact hxb)]
                    have := HO.out.setK encI_len (i := i2) (j := 0) (x' := lb) (u := .int .i64 lb) (relabTo_at HXV.out) (by omega) rfl
                    simpa using this
                  case measure => simp [intOf]; omega
                · have hxd : (lx == la) = false := by simpa using hxb
                  go_wp2_with fail
                  go_roundw
                  case rel =>
                    refine ⟨i2 + 1, by omega, by go_num, HB, Lib.hid ?_⟩
                    rw [relabTo_skip HXV.out (by rw [← HLX.out]; exact hxb)]
                    exact HO.out
                  case measure => simp [intOf]; omega
              · have hkd : decide ((i2 : Int) < (k : Int)) = false := by simp; omega
                go_wp2_with fail
                go_roundw
                case rel =>
                  refine ⟨j + 1, relab L lb la, by omega, by go_num, Lib.hid ?_, HB, Lib.hid ?_⟩
                  · refine lab_step (ed := ⟨id, p, q, wt⟩) rfl rfl HLAB.out HP.out HQ.out (fun e => by rw [HTK.out, List.mem_append, List.mem_singleton, List.mem_cons]; exact or_comm) ?_
                    exact .inr ⟨HLB.out, HLA.out⟩
                  · have := HO.out
                    rw [relabTo_all (by have := HN.out; omega)] at this
                    exact this
                case measure => simp [intOf]; omega
          · have hgd : decide (la > lb) = false := by simpa using hgt
            go_wp2_with fail
            go_loopw [11] (fun i wr => ∃ i2 : Nat, i2 ≤ k ∧ i = .int .i64 i2 ∧ Hid (Below w.heap.size w wr) ∧ Hid (OK encI 1 3 wr w.heap.size (.slice (some ⟨b5, 0, none⟩) k ct) (relabTo V L la lb i2))) (fun i _ => k - (intOf i).toNat)
            case atStart => exact ⟨0, Nat.zero_le _, rfl, HBd, Lib.hid (by rw [relabTo_zero]; exact HOd.out)⟩
            case round =>
              clear HBd HOd
              obtain ⟨i2, hi2, rfl, HB, HO⟩ := hrel
              by_cases hab : la = lb
              · subst hab
                have hne : (la != la) = false := by simp
                by_cases hik : i2 < k
                · have hkd : decide ((i2 : Int) < (k : Int)) = true := by simpa using hik
                  go_wp2_with fail
                  go_roundw
                  case rel =>
                    refine ⟨j + 1, relab L la la, by omega, by go_num, Lib.hid ?_, HB, Lib.hid ?_⟩
                    · refine lab_step (ed := ⟨id, p, q, wt⟩) rfl rfl HLAB.out HP.out HQ.out (fun e => by rw [HTK.out, List.mem_append, List.mem_singleton, List.mem_cons]; exact or_comm) ?_
                      exact .inl ⟨HLA.out, HLB.out⟩
                    · have := HO.out
                      rw [relabTo_eq] at this; rw [relab_eq]
                      exact this
                  case measure => simp [intOf]; omega
                · have hkd : decide ((i2 : Int) < (k : Int)) = false := by simp; omega
                  go_wp2_with fail
                  go_roundw
                  case rel =>
                    refine ⟨j + 1, relab L la la, by omega, by go_num, Lib.hid ?_, HB, Lib.hid ?_⟩
                    · refine lab_step (ed := ⟨id, p, q, wt⟩) rfl rfl HLAB.out HP.out HQ.out (fun e => by rw [HTK.out, List.mem_append, List.mem_singleton, List.mem_cons]; exact or_comm) ?_
                      exact .inl ⟨HLA.out, HLB.out⟩
                    · have := HO.out
                      rw [relabTo_eq] at this; rw [relab_eq]
                      exact this
                  case measure => simp [intOf]; omega
              have hne : (la != lb) = true := by simpa using hab
              by_cases hik : i2 < k
              · have hiv : i2 < V.length := by have := HN.out; omega
                obtain ⟨x, hx⟩ : ∃ x, x = V[i2] := ⟨_, rfl⟩
                have HXV : Hid (V[i2]? = some x) := Lib.hid (List.getElem?_eq_some_iff.2 ⟨hiv, hx.symm⟩)
                clear hx
                obtain ⟨lx, hlx⟩ : ∃ l, l = L x := ⟨_, rfl⟩
                have y3 : wr.cell? ⟨b5, i2, none⟩ = some (.int .i64 lx) := by
                  have := HO.out.cellK encI_len (i := i2) (j := 0) (x := L x) (relabTo_at HXV.out) rfl
                  rw [← hlx] at this
                  simpa using this
                have y4 : wr.frozen? ⟨b5, i2, none⟩ = false := HO.out.frozenK i2
                have HLX := Lib.hid hlx
                have HLO := Lib.hid ((HO.out.lt b5 rfl).1)
                clear hlx
                have hkd : decide ((i2 : Int) < (k : Int)) = true := by simpa using hik
                have hik2 : (i2 : Int) < (k : Int) := by omega
                by_cases hxb : lx = lb
                · have hxd : (lx == lb) = true := by simpa using hxb
                  go_wp2_with fail
                  go_roundw
                  case rel =>
                    refine ⟨i2 + 1, by omega, by go_num, Lib.hid (HB.out.setCell (p := ⟨b5, i2, none⟩) HLO.out _), Lib.hid ?_⟩
                    rw [relabTo_hit HXV.out (by rw [← HLX.out]; exact hxb)]
                    have := HO.out.setK encI_len (i := i2) (j := 0) (x' := la) (u := .int .i64 la) (relabTo_at HXV.out) (by omega) rfl
                    simpa using this
                  case measure => simp [intOf]; omega
                · have hxd : (lx == lb) = false := by simpa using hxb
                  go_wp2_with fail
                  go_roundw
                  case rel =>
                    refine ⟨i2 + 1, by omega, by go_num, HB, Lib.hid ?_⟩
                    rw [relabTo_skip HXV.out (by rw [← HLX.out]; exact hxb)]
                    exact HO.out
                  case measure => simp [intOf]; omega
              · have hkd : decide ((i2 : Int) < (k : Int)) = false := by simp; omega
                go_wp2_with fail
                go_roundw
                case rel =>
                  refine ⟨j + 1, relab L la lb, by omega, by go_num, Lib.hid ?_, HB, Lib.hid ?_⟩
                  · refine lab_step (ed := ⟨id, p, q, wt⟩) rfl rfl HLAB.out HP.out HQ.out (fun e => by rw [HTK.out, List.mem_append, List.mem_singleton, List.mem_cons]; exact or_comm) ?_
                    exact .inl ⟨HLA.out, HLB.out⟩
                  · have := HO.out
                    rw [relabTo_all (by have := HN.out; omega)] at this
                    exact this
                case measure => simp [intOf]; omega
        · obtain rfl : j = m := by omega
          have hjd : decide ((j : Int) < (j : Int)) = false := by simp
          have HLAB2 : Hid (Lab V L es) := Lib.hid (by
            have := HLAB.out
            rwa [List.take_of_length_le (by have := HM.out; omega)] at this)
          go_wp2_with fail
          go_ret
          exact ⟨_, L, rfl, HLAB2.out, HO.out, HB.out⟩

end Go.Proofs.Ytlhkajlkapoabaa

/-
  The document's forest in memory; its Verts.
-/
namespace Go.Proofs.Ytlhkajlkapoabaa
open Go.RowKit Go.Maps
set_option linter.unusedVariables false

/-- The document's forest in plain words. -/
structure DF where
  vs : List Int
  es : List Eg
  mv : List Int
  me : List Int

/-- Its edges' ends are there, and it is not long. -/
structure DF.Fit (d : DF) : Prop where
  nd : d.vs.Nodup
  ends : ∀ e ∈ d.es, e.u ∈ d.vs ∧ e.v ∈ d.vs
  nv : d.vs.length ≤ 4096
  ne : d.es.length ≤ 8192

/-- It stands in memory. -/
structure DocR (w : World) (B : Nat) (a b c e : Value) (d : DF) : Prop where
  vs : RI w B a d.vs
  es : RK encD 4 w B b d.es
  mv : RI w B c d.mv
  me : RI w B e d.me

theorem DocR.below {w w' : World} {B : Nat} {a b c e : Value} {d : DF} (h : DocR w B a b c e d) (hb : Below B w w') : DocR w' B a b c e d := ⟨h.vs.below hb, h.es.below hb, h.mv.below hb, h.me.below hb⟩

theorem DocR.more {w : World} {B B' : Nat} {a b c e : Value} {d : DF} (h : DocR w B a b c e d) (hB : B ≤ B') : DocR w B' a b c e d := ⟨h.vs.more hB, h.es.more hB, h.mv.more hB, h.me.more hB⟩

/-- A box of a forest at p. -/
structure BoxD (w W : World) (p : Nat) (cs : Array Value) : Prop where
  b0 : Blk W p 31 cs
  below : Below w.heap.size w W
  lo : w.heap.size ≤ p

theorem boxD (w : World) (cs : Array Value) : BoxD w (w.alloc (.cells cs 31)) w.heap.size cs := ⟨Blk.new _ _ _, (Below.refl _ _).alloc (Nat.le_refl _) _, Nat.le_refl _⟩

theorem BoxD.after {w W W' : World} {p : Nat} {cs : Array Value} (h : BoxD w W p cs) (hb : Below W.heap.size W W') : BoxD w W' p cs := ⟨h.b0.below hb h.b0.lt, h.below.trans (hb.mono h.below.size), h.lo⟩

open Classical in
/-- A vertex's tree, in the document's order. -/
noncomputable def DF.tree (d : DF) (u : Int) : List Int := if u ∈ d.vs then d.vs.filter fun i => decide (Conn d.es u i) else []

open Classical in
theorem tree_lab {V : List Int} {es : List Eg} {L : Int → Int} (h : Lab V L es) {u : Int} (hu : u ∈ V) : ∀ {W : List Int}, (∀ x ∈ W, x ∈ V) → (W.filter fun i => L i == L u) = W.filter fun i => decide (Conn es u i) := by
  intro W hW
  refine List.filter_congr fun x hx => ?_
  have h1 := h u hu x (hW x hx)
  by_cases e : L x = L u
  · rw [decide_eq_true (h1.1 e.symm)]; simpa using e
  · rw [decide_eq_false (fun c => e (h1.2 c).symm)]; simpa using e

theorem filter_take {V : List Int} {k : Nat} {y : Int} {P : Int → Bool} (h : V.take (k + 1) = V.take k ++ [y]) : (V.take (k + 1)).filter P = if P y = true then (V.take k).filter P ++ [y] else (V.take k).filter P := by
  rw [h, List.filter_append]
  by_cases hp : P y = true
  · rw [if_pos hp]; simp [hp]
  · rw [if_neg hp]; simp [hp]

set_option maxRecDepth 100000 in
set_option maxHeartbeats 4000000 in
theorem refVerts_any (w : World) (a b c e : Value) (d : DF) (u : Int) (h : DocR w w.heap.size a b c e d) (hd : d.Fit) :
    Calls Try.prog 50 #[.agg #[a, b, c, e], .int .i64 u] w fun r w' => ∃ x, r = .returned x ∧ OK encI 1 3 w' w.heap.size x (d.tree u) ∧ Below w.heap.size w w' := by
  have H := Lib.hid h
  have HF := Lib.hid hd
  obtain ⟨A, ca, rfl, -, -, -, HC⟩ := h.vs.open_
  obtain ⟨n, hnn⟩ : ∃ n, n = d.vs.length := ⟨_, rfl⟩
  rw [← hnn] at H ⊢
  have HN := Lib.hid hnn
  have hn2 : n ≤ 4096 := by rw [hnn]; exact hd.nv
  clear h hd hnn
  obtain ⟨W, hW⟩ : ∃ W, W = w.alloc (.cells #[.slice A n ca, b, c, e] 31) := ⟨_, rfl⟩
  obtain ⟨q, hq⟩ : ∃ q, q = w.heap.size := ⟨_, rfl⟩
  have hbx := boxD w #[.slice A n ca, b, c, e]
  rw [← hW, ← hq] at hbx
  have HW := Lib.hid hW
  have HQ := Lib.hid hq
  have BX := Lib.hid (show BoxD w W q #[.slice A n ca, b, c, e] from hq ▸ hbx)
  clear hW hq hbx
  go_enter Try.func50, Try.ntmps50
  go_upto_region 1 with fail
  rw [← HW.out]
  try simp only [← HQ.out]
  have c0 := BX.out.b0.cell 0
  have c1 := BX.out.b0.cell 1
  have HR1 := Lib.hid ((H.out.below BX.out.below).more BX.out.below.size)
  go_wp2_with fail
  refine (Sets_any _ _ d.vs d.es W HR1.out.vs HR1.out.es HF.out.nd HF.out.ends (by have := HF.out.nv; omega) (by have := HF.out.ne; omega)).mono ?_
  rintro r w1 ⟨x, L, rfl, hlab, o1, b1⟩
  have HLAB := Lib.hid hlab
  have O1 := Lib.hid o1
  have BX1 := Lib.hid (BX.out.after b1)
  obtain ⟨As, cs, hxs, -, -, -, HS⟩ := (o1.rk encI_len (Nat.le_refl _)).open_
  rw [List.length_map, ← HN.out] at hxs
  subst hxs
  clear hlab o1 b1 c0 c1 BX HR1
  have c0 := BX1.out.b0.cell 0
  go_wp2_with fail
  go_loopw [6, 7] (fun t i wr => ∃ k : Nat, k ≤ n ∧ i = .int .i64 k ∧ Hid ((t = .int .i64 (-1) ∧ u ∉ d.vs.take k) ∨ ∃ m : Nat, m < n ∧ d.vs[m]? = some u ∧ t = .int .i64 m) ∧ wr = w1) (fun _ i _ => n - (intOf i).toNat)
  case atStart => exact ⟨0, Nat.zero_le _, rfl, Lib.hid (.inl ⟨rfl, by simp⟩), rfl⟩
  case round =>
    obtain ⟨k, hk, rfl, HT, hwr⟩ := hrel
    rw [hwr]
    clear hwr
    by_cases hkn : k < n
    · have hkv : k < d.vs.length := by have := HN.out; omega
      obtain ⟨b1, o1, rfl, hb1, hx⟩ := HC.out k hkv
      obtain ⟨y, hy⟩ : ∃ y, y = d.vs[k] := ⟨_, rfl⟩
      have HTK := Lib.hid (List.take_succ_eq_append_getElem hkv)
      have HY : Hid (d.vs[k]? = some y) := Lib.hid (List.getElem?_eq_some_iff.2 ⟨hkv, hy.symm⟩)
      rw [← hy] at hx HTK
      have hx := cellI hx
      have hx := (BX1.out.below.cell (p := ⟨b1, o1 + k, none⟩) hb1).trans hx
      clear hy
      have hkd : decide ((k : Int) < (n : Int)) = true := by simpa using hkn
      have hk2 : (k : Int) < (n : Int) := by omega
      by_cases hyu : y = u
      · have hyd : (y == u) = true := by simpa using hyu
        go_wp2_with fail
        go_roundw
        case rel => exact ⟨k + 1, by omega, by go_num, Lib.hid (.inr ⟨k, hkn, by rw [HY.out, hyu], rfl⟩), by first | rfl | trivial⟩
        case measure => simp [intOf]; omega
      · have hyd : (y == u) = false := by simpa using hyu
        go_wp2_with fail
        go_roundw
        case rel =>
          refine ⟨k + 1, by omega, by go_num, Lib.hid ?_, by first | rfl | trivial⟩
          rcases HT.out with ⟨h1, h2⟩ | h1
          · refine .inl ⟨h1, ?_⟩
            rw [HTK.out, List.mem_append]
            rintro (h | h)
            · exact h2 h
            · exact hyu (List.mem_singleton.1 h).symm
          · exact .inr h1
        case measure => simp [intOf]; omega
    · obtain rfl : k = n := by omega
      have hkd : decide ((k : Int) < (k : Int)) = false := by simp
      have HT2 := HT
      clear HT
      rcases HT2.out with ⟨ht, hu⟩ | ⟨m, hm, hmu, ht⟩
      · have HTR : Hid (d.tree u = []) := Lib.hid (by
          unfold DF.tree
          rw [List.take_of_length_le (by have := HN.out; omega)] at hu
          rw [if_neg hu])
        subst ht
        clear hu HT2
        go_wp2_with fail
        go_loopw [8, 9] (fun x i wr => ∃ n2 : Nat, n2 ≤ k ∧ i = .int .i64 n2 ∧ Hid (Below w1.heap.size w1 wr) ∧ Hid (OK encI 1 3 wr w1.heap.size x ([]))) (fun _ i _ => k - (intOf i).toNat)
        case atStart => exact ⟨0, Nat.zero_le _, rfl, Lib.hid ((Below.refl _ _).alloc (Nat.le_refl _) _), Lib.hid ⟨by simp, World.ownsRow_lit w1 #[] 0 (by omega) (by decide) rfl⟩⟩
        case round =>
          obtain ⟨n2, hn2k, rfl, HB, HO⟩ := hrel
          have hz := HB.out.size
          have c0 := (HB.out.cell (p := ⟨q, 0, none⟩) BX1.out.b0.lt).trans c0
          by_cases hlt : n2 < k
          · have hkd : decide ((n2 : Int) < (k : Int)) = true := by simpa using hlt
            go_wp2_with fail
            go_quiet (fail)
            go_wp2_with fail
            go_roundw
            case rel => exact ⟨n2 + 1, by omega, by go_num, Lib.hid (below_drewN HB.out _), Lib.hid (HO.out.drewN _)⟩
            case measure => simp [intOf]; omega
          · obtain rfl : n2 = k := by omega
            have hkd : decide ((n2 : Int) < (n2 : Int)) = false := by simp
            go_wp2_with fail
            go_ret
            refine ⟨_, rfl, ?_, BX1.out.below.trans (HB.out.mono BX1.out.below.size)⟩
            rw [HTR.out]
            have := HO.out.base BX1.out.below.size
            exact this
      · have huv : u ∈ d.vs := List.mem_iff_getElem?.2 ⟨m, hmu⟩
        have HTR : Hid (d.tree u = d.vs.filter fun i => L i == L u) := Lib.hid (by
          unfold DF.tree
          rw [if_pos huv, tree_lab HLAB.out huv (fun x hx => hx)])
        subst ht
        clear HT2 huv
        go_wp2_with fail
        go_loopw [8, 9] (fun x i wr => ∃ n2 : Nat, n2 ≤ k ∧ i = .int .i64 n2 ∧ Hid (Below w1.heap.size w1 wr) ∧ Hid (OK encI 1 3 wr w1.heap.size x ((d.vs.take n2).filter fun i => L i == L u))) (fun _ i _ => k - (intOf i).toNat)
        case atStart => exact ⟨0, Nat.zero_le _, rfl, Lib.hid ((Below.refl _ _).alloc (Nat.le_refl _) _), Lib.hid ⟨by simp, World.ownsRow_lit w1 #[] 0 (by omega) (by decide) rfl⟩⟩
        case round =>
          obtain ⟨n2, hn2k, rfl, HB, HO⟩ := hrel
          have hz := HB.out.size
          have c0 := (HB.out.cell (p := ⟨q, 0, none⟩) BX1.out.b0.lt).trans c0
          by_cases hlt : n2 < k
          · have hkd : decide ((n2 : Int) < (k : Int)) = true := by simpa using hlt
            have hkv : n2 < d.vs.length := by have := HN.out; omega
            obtain ⟨b1, o1, rfl, hb1, hx⟩ := HC.out n2 hkv
            obtain ⟨y, hy⟩ : ∃ y, y = d.vs[n2] := ⟨_, rfl⟩
            have HTK := Lib.hid (List.take_succ_eq_append_getElem hkv)
            have HY : Hid (d.vs[n2]? = some y) := Lib.hid (List.getElem?_eq_some_iff.2 ⟨hkv, hy.symm⟩)
            rw [← hy] at hx HTK
            have hx := cellI hx
            have hx := (HB.out.cell (p := ⟨b1, o1 + n2, none⟩) (by have := BX1.out.below.size; show b1 < _; omega)).trans ((BX1.out.below.cell (p := ⟨b1, o1 + n2, none⟩) hb1).trans hx)
            obtain ⟨ly, hly⟩ : ∃ l, l = L y := ⟨_, rfl⟩
            obtain ⟨lu, hlu⟩ : ∃ l, l = L u := ⟨_, rfl⟩
            obtain ⟨bs, os, rfl, hbs, hs1⟩ := HS.out n2 (by rw [List.length_map, ← HN.out]; exact hlt)
            obtain ⟨bs', os', hse, -, hs2⟩ := HS.out m (by rw [List.length_map, ← HN.out]; exact hm)
            injection hse with hse
            injection hse with hse1 hse2
            subst hse1 hse2
            have hs1 := cellI hs1
            have hs2 := cellI hs2
            rw [List.getElem_map, ← hy, ← hly] at hs1
            rw [List.getElem_map, show d.vs[m] = u from (List.getElem?_eq_some_iff.1 hmu).2, ← hlu] at hs2
            have hs1 := (HB.out.cell (p := ⟨bs, os + n2, none⟩) hbs).trans hs1
            have hs2 := (HB.out.cell (p := ⟨bs, os + m, none⟩) hbs).trans hs2
            have HLY := Lib.hid hly
            have HLU := Lib.hid hlu
            have hlt2 : (n2 : Int) < (k : Int) := by omega
            have hm2 : (m : Int) < (k : Int) := by omega
            have hm0 : decide ((m : Int) ≥ 0) = true := by simp
            have HLEN : Hid (((d.vs.take n2).filter fun i => L i == L u).length ≤ n2) := Lib.hid (Nat.le_trans (List.length_filter_le _ _) (List.length_take_le _ _))
            have HLo := Lib.hid HO.out.lt
            clear hy hly hlu
            by_cases hll : ly = lu
            · have hld : (ly == lu) = true := by simpa using hll
              go_wp2_with fail
              go_quiet (fail)
              have HO2 := Lib.hid (HO.out.drewN nq)
              have HB2 := Lib.hid (below_drewN HB.out nq)
              obtain ⟨wd, hwd⟩ : ∃ wd, wd = wr.drewN nq := ⟨_, rfl⟩
              have hx : wd.cell? ⟨b1, o1 + n2, none⟩ = some (.int .i64 y) := by rw [hwd]; exact hx
              have c0 : wd.cell? ⟨q, 0, none⟩ = some (.slice (some ⟨b1, o1, none⟩) k ca) := by rw [hwd]; exact c0
              have hz : w1.heap.size ≤ wd.heap.size := by rw [hwd]; exact hz
              rw [← hwd] at HO2 HB2 ⊢
              clear hwd hs1 hs2 HO HB
              have HLo := Lib.hid HO2.out.lt
              go_wp2_with (at_builtin; refine wpList_appE etInts encI_len encI_one (y := y) rfl (.tmp 56) (.tmp 63) rfl rfl (HO2.out.alloc _) wd.heap.size rfl (oneI wd y _) (by have := HLEN.out; omega) (by simp; omega) ?_; intro v' w5 ho5 hg5 hb5; have HO5 := Lib.hid ho5; have HG5 := Lib.hid hg5; clear ho5 hg5 hb5)
              go_roundw
              case rel =>
                refine ⟨n2 + 1, by omega, by go_num, Lib.hid ((HB2.out.alloc (by omega) _).grown HG5.out (by simp; omega) (fun q hq => (HLo.out q hq).1)), Lib.hid ?_⟩
                rw [filter_take HTK.out, if_pos (by rw [← HLY.out, ← HLU.out]; exact hld)]; exact HO5.out
              case measure => simp [intOf]; omega
            · have hld : (ly == lu) = false := by simpa using hll
              go_wp2_with fail
              go_quiet (fail)
              go_wp2_with fail
              go_roundw
              case rel =>
                refine ⟨n2 + 1, by omega, by go_num, Lib.hid (below_drewN HB.out _), Lib.hid ?_⟩
                rw [filter_take HTK.out, if_neg (by rw [← HLY.out, ← HLU.out, hld]; decide)]; exact HO.out.drewN _
              case measure => simp [intOf]; omega
          · obtain rfl : n2 = k := by omega
            have hkd : decide ((n2 : Int) < (n2 : Int)) = false := by simp
            go_wp2_with fail
            go_ret
            refine ⟨_, rfl, ?_, BX1.out.below.trans (HB.out.mono BX1.out.below.size)⟩
            rw [HTR.out]
            have := HO.out.base BX1.out.below.size
            rw [List.take_of_length_le (by have := HN.out; omega)] at this
            exact this

end Go.Proofs.Ytlhkajlkapoabaa

/-
  The document's Edges and Joined.
-/
namespace Go.Proofs.Ytlhkajlkapoabaa
open Go.RowKit Go.Maps
set_option linter.unusedVariables false

/-- The edges of a vertex's tree, in the document's order. -/
noncomputable def DF.treeE (d : DF) (u : Int) : List Int := (d.es.filter fun e => decide (e.u ∈ d.tree u)).map fun e => e.id

theorem fmap_take {V : List Eg} {k : Nat} {y : Eg} {P : Eg → Bool} (h : V.take (k + 1) = V.take k ++ [y]) : ((V.take (k + 1)).filter P).map (fun e => e.id) = if P y = true then ((V.take k).filter P).map (fun e => e.id) ++ [y.id] else ((V.take k).filter P).map (fun e => e.id) := by
  rw [h, List.filter_append]
  by_cases hp : P y = true
  · rw [if_pos hp]; simp [hp]
  · rw [if_neg hp]; simp [hp]

set_option maxRecDepth 100000 in
set_option maxHeartbeats 4000000 in
theorem refJoined_any (w : World) (a b c e : Value) (d : DF) (u v : Int) (h : DocR w w.heap.size a b c e d) (hd : d.Fit) :
    Calls Try.prog 43 #[.agg #[a, b, c, e], .int .i64 u, .int .i64 v] w fun r w' => r = .returned (.bool (decide (v ∈ d.tree u))) ∧ Below w.heap.size w w' := by
  have H := Lib.hid h
  have HF := Lib.hid hd
  clear h hd
  obtain ⟨W, hW⟩ : ∃ W, W = w.alloc (.cells #[a, b, c, e] 31) := ⟨_, rfl⟩
  obtain ⟨q, hq⟩ : ∃ q, q = w.heap.size := ⟨_, rfl⟩
  have hbx := boxD w #[a, b, c, e]
  rw [← hW, ← hq] at hbx
  have HW := Lib.hid hW
  have HQ := Lib.hid hq
  have BX := Lib.hid (show BoxD w W q #[a, b, c, e] from hq ▸ hbx)
  clear hW hq hbx
  go_enter Try.func43, Try.ntmps43
  go_upto_region 1 with fail
  rw [← HW.out]
  try simp only [← HQ.out]
  have c0 := BX.out.b0.cell 0
  have c1 := BX.out.b0.cell 1
  have c2 := BX.out.b0.cell 2
  have c3 := BX.out.b0.cell 3
  have HR1 := Lib.hid ((H.out.below BX.out.below).more BX.out.below.size)
  go_wp2_with fail
  refine (refVerts_any W _ _ _ _ d u HR1.out HF.out).mono ?_
  rintro r w1 ⟨x, rfl, o1, b1⟩
  have O1 := Lib.hid (o1.rk encI_len (Nat.le_refl _))
  have BX1 := Lib.hid (BX.out.below.trans (b1.mono BX.out.below.size))
  clear o1 b1 c0 c1 c2 c3 BX HR1
  go_wp2_with fail
  refine (has_any _ _ w1 _ O1.out v).mono ?_
  rintro r wx ⟨rfl, hwx⟩
  rw [hwx]
  clear hwx wx
  go_wp2_with fail
  go_ret
  exact ⟨rfl, BX1.out⟩

end Go.Proofs.Ytlhkajlkapoabaa

/-
  The document's Edge.
-/
namespace Go.Proofs.Ytlhkajlkapoabaa
open Go.RowKit Go.Maps
set_option linter.unusedVariables false

/-- An edge's value. -/
def edV (e : Eg) : Value := .agg #[.int .i64 e.id, .int .i64 e.u, .int .i64 e.v, .int .i64 (e.w : Int)]

/-- A box at p, a result's cell behind it. -/
structure BoxE (w W : World) (p : Nat) (t : TypeId) (cs : Array Value) (t2 : TypeId) (cs2 : Array Value) : Prop where
  b0 : Blk W p t cs
  b1 : Blk W (p + 1) t2 cs2
  below : Below w.heap.size w W
  lo : w.heap.size ≤ p

theorem boxE (w : World) (t : TypeId) (cs : Array Value) (t2 : TypeId) (cs2 : Array Value) : BoxE w ((w.alloc (.cells cs t)).alloc (.cells cs2 t2)) w.heap.size t cs t2 cs2 := by
  refine ⟨(Blk.new _ _ _).alloc _, ?_, ((Below.refl _ _).alloc (Nat.le_refl _) _).alloc (by simp) _, Nat.le_refl _⟩
  have := Blk.new (w.alloc (.cells cs t)) t2 cs2
  simpa using this

theorem BoxE.after {w W W' : World} {p : Nat} {t t2 : TypeId} {cs cs2 : Array Value} (h : BoxE w W p t cs t2 cs2) (hb : Below W.heap.size W W') : BoxE w W' p t cs t2 cs2 := ⟨h.b0.below hb h.b0.lt, h.b1.below hb h.b1.lt, h.below.trans (hb.mono h.below.size), h.lo⟩

theorem BoxE.set4 {w W : World} {p : Nat} {t t2 : TypeId} {cs cs2 : Array Value} (h : BoxE w W p t cs t2 cs2) (a b c d : Value) : Below w.heap.size w ((((W.setCell ⟨p + 1, 0, none⟩ a).setCell ⟨p + 1, 1, none⟩ b).setCell ⟨p + 1, 2, none⟩ c).setCell ⟨p + 1, 3, none⟩ d) := by
  have hq : w.heap.size ≤ p + 1 := by have := h.lo; omega
  exact (((h.below.setCell (p := ⟨p + 1, 0, none⟩) hq _).setCell (p := ⟨p + 1, 1, none⟩) hq _).setCell (p := ⟨p + 1, 2, none⟩) hq _).setCell (p := ⟨p + 1, 3, none⟩) hq _

def zEd : Array Value := #[.int .i64 0, .int .i64 0, .int .i64 0, .int .i64 0]

set_option maxRecDepth 100000 in
set_option maxHeartbeats 2000000 in
theorem edge05_any (w : World) (g0 b g2 : Value) (es : List Eg) (x : Int) (hb : RK encD 4 w w.heap.size b es) (hl : es.length ≤ 100000) :
    Calls Try.prog 26 #[.agg #[g0, b, g2], .int .i64 x] w fun r w' => r = .returned (.tuple #[edV (look es x), .bool (decide (x ∈ ids es))]) ∧ Below w.heap.size w w' := by
  obtain ⟨A, ca, rfl, -, -, -, HC⟩ := hb.open_
  obtain ⟨n, hnn⟩ : ∃ n, n = es.length := ⟨_, rfl⟩
  rw [← hnn] at hl ⊢
  have HN := Lib.hid hnn
  clear hb hnn
  obtain ⟨W, hW⟩ : ∃ W, W = (w.alloc (.cells #[g0, .slice A n ca, g2] 75)).alloc (.cells zEd 33) := ⟨_, rfl⟩
  obtain ⟨q, hq⟩ : ∃ q, q = w.heap.size := ⟨_, rfl⟩
  have hbx := boxE w 75 #[g0, .slice A n ca, g2] 33 zEd
  rw [← hW, ← hq] at hbx
  unfold zEd at hW hbx
  have HW := Lib.hid hW
  have HQ := Lib.hid hq
  have BX := Lib.hid (show BoxE w W q 75 #[g0, .slice A n ca, g2] 33 #[.int .i64 0, .int .i64 0, .int .i64 0, .int .i64 0] from hq ▸ hbx)
  clear hW hq hbx
  go_enter Try.func26, Try.ntmps26
  go_upto_region 1 with fail
  rw [← HW.out]
  try simp only [← HQ.out]
  have c1 := BX.out.b0.cell 1
  have d0 := BX.out.b1.cell 0
  have d1 := BX.out.b1.cell 1
  have d2 := BX.out.b1.cell 2
  have d3 := BX.out.b1.cell 3
  have f0 := BX.out.b1.frozen 0
  have f1 := BX.out.b1.frozen 1
  have f2 := BX.out.b1.frozen 2
  have f3 := BX.out.b1.frozen 3
  go_wp2_with fail
  go_loopw [6] (fun i wr => ∃ k : Nat, k ≤ n ∧ i = .int .i64 k ∧ Hid (x ∉ ids (es.take k)) ∧ wr = W) (fun i _ => n - (intOf i).toNat)
  case atStart => exact ⟨0, Nat.zero_le _, rfl, Lib.hid (by simp [ids]), rfl⟩
  case round =>
    obtain ⟨k, hk, rfl, HT, hwr⟩ := hrel
    rw [hwr]
    clear hwr
    by_cases hkn : k < n
    · have hkv : k < es.length := by have := HN.out; omega
      obtain ⟨b1, o1, rfl, hb1, hx⟩ := HC.out k hkv
      obtain ⟨⟨id, p1, p2, p3⟩, hy⟩ : ∃ y, y = es[k] := ⟨_, rfl⟩
      have HTK := Lib.hid (List.take_succ_eq_append_getElem hkv)
      have HMEM := Lib.hid (List.getElem_mem hkv)
      rw [← hy] at hx HTK HMEM
      obtain ⟨x0, x1, x2, x3⟩ := cellD hx
      dsimp only at x0 x1 x2 x3
      have x0 := (BX.out.below.cell (p := ⟨b1, o1 + k * 4, none⟩) hb1).trans x0
      have x1 := (BX.out.below.cell (p := ⟨b1, o1 + k * 4 + 1, none⟩) hb1).trans x1
      have x2 := (BX.out.below.cell (p := ⟨b1, o1 + k * 4 + 2, none⟩) hb1).trans x2
      have x3 := (BX.out.below.cell (p := ⟨b1, o1 + k * 4 + 3, none⟩) hb1).trans x3
      have hkd : decide ((k : Int) < (n : Int)) = true := by simpa using hkn
      have hk2 : (k : Int) < (n : Int) := by omega
      clear hx hy
      by_cases hix : id = x
      · have HIN : Hid (x ∈ ids es) := Lib.hid (List.mem_map.2 ⟨_, HMEM.out, hix⟩)
        have HLK : Hid (look es x = ⟨id, p1, p2, p3⟩) := Lib.hid (look_at HT.out HTK.out hix)
        subst hix
        have hid : (id == id) = true := by simp
        go_wp2_with fail
        refine ret_cell_tmp2 (p := 4) (u := 5) (v := edV ⟨id, p1, p2, p3⟩) (x := .bool true) rfl rfl rfl (by unfold edV; go_simp) rfl ⟨by rw [decide_eq_true HIN.out, HLK.out], ?_⟩
        exact BX.out.set4 _ _ _ _
      · have hid : (id == x) = false := by simpa using hix
        go_wp2_with fail
        go_roundw
        case rel =>
          refine ⟨k + 1, by omega, by go_num, Lib.hid ?_, by first | rfl | trivial⟩
          unfold ids
          rw [HTK.out, List.map_append, List.mem_append]
          rintro (h | h)
          · exact HT.out h
          · exact hix (List.mem_singleton.1 h).symm
        case measure => simp [intOf]; omega
    · obtain rfl : k = n := by omega
      have hkd : decide ((k : Int) < (k : Int)) = false := by simp
      have HIN : Hid (x ∉ ids es) := Lib.hid (by
        have := HT.out
        rwa [List.take_of_length_le (by have := HN.out; omega)] at this)
      go_wp2_with fail
      refine ret_cell_tmp2 (p := 4) (u := 5) (v := edV Eg.zero) (x := .bool false) rfl rfl rfl (by unfold edV Eg.zero; go_simp) rfl ⟨by rw [decide_eq_false HIN.out, look_no HIN.out], ?_⟩
      first | exact BX.out.below | exact BX.out.set4 _ _ _ _

set_option maxRecDepth 100000 in
set_option maxHeartbeats 2000000 in
theorem refEdge_any (w : World) (a b c e : Value) (d : DF) (x : Int) (h : DocR w w.heap.size a b c e d) (hd : d.Fit) :
    Calls Try.prog 13 #[.agg #[a, b, c, e], .int .i64 x] w fun r w' => r = .returned (.tuple #[edV (look d.es x), .bool (decide (x ∈ ids d.es))]) ∧ Below w.heap.size w w' := by
  obtain ⟨Ab, cb, rfl, -, -, -, -⟩ := h.es.open_
  obtain ⟨nb, hnb⟩ : ∃ nb, nb = d.es.length := ⟨_, rfl⟩
  rw [← hnb] at h ⊢
  clear hnb
  have H := Lib.hid h
  have HF := Lib.hid hd
  clear h hd
  obtain ⟨W, hW⟩ : ∃ W, W = (w.alloc (.cells #[a, .slice Ab nb cb, c, e] 31)).alloc (.cells zEd 33) := ⟨_, rfl⟩
  obtain ⟨q, hq⟩ : ∃ q, q = w.heap.size := ⟨_, rfl⟩
  have hbx := boxE w 31 #[a, .slice Ab nb cb, c, e] 33 zEd
  rw [← hW, ← hq] at hbx
  unfold zEd at hW hbx
  have HW := Lib.hid hW
  have HQ := Lib.hid hq
  have BX := Lib.hid (show BoxE w W q 31 #[a, .slice Ab nb cb, c, e] 33 #[.int .i64 0, .int .i64 0, .int .i64 0, .int .i64 0] from hq ▸ hbx)
  clear hW hq hbx
  go_enter Try.func13, Try.ntmps13
  go_upto_region 1 with fail
  rw [← HW.out]
  try simp only [← HQ.out]
  have c1 := BX.out.b0.cell 1
  have HR1 := Lib.hid ((H.out.below BX.out.below).more BX.out.below.size)
  go_wp2_with fail
  refine (edge05_any W _ _ _ d.es x HR1.out.es (by have := HF.out.ne; omega)).mono ?_
  obtain ⟨⟨y0, y1, y2, y3⟩, hlk⟩ : ∃ z, z = look d.es x := ⟨_, rfl⟩
  rw [← hlk]
  have HLK := Lib.hid hlk
  rintro r w1 ⟨rfl, b1⟩
  clear hlk
  have BX1 := Lib.hid (BX.out.after b1)
  have d0 := BX1.out.b1.cell 0
  have d1 := BX1.out.b1.cell 1
  have d2 := BX1.out.b1.cell 2
  have d3 := BX1.out.b1.cell 3
  have f0 := BX1.out.b1.frozen 0
  have f1 := BX1.out.b1.frozen 1
  have f2 := BX1.out.b1.frozen 2
  have f3 := BX1.out.b1.frozen 3
  clear b1 c1 BX HR1
  unfold edV
  dsimp only
  go_wp2_with fail
  refine ret_cell_tmp2 (p := 4) (u := 5) (v := edV ⟨y0, y1, y2, y3⟩) (x := .bool (decide (x ∈ ids d.es))) rfl rfl rfl (by unfold edV; go_simp) rfl ⟨by rw [← HLK.out], ?_⟩
  first | exact BX1.out.below | exact BX1.out.set4 _ _ _ _

end Go.Proofs.Ytlhkajlkapoabaa

/-
  The document's AddV at any forest.
-/
namespace Go.Proofs.Ytlhkajlkapoabaa
open Go.RowKit Go.Maps
set_option linter.unusedVariables false

open Classical in
noncomputable def DF.addE (d : DF) (v : Int) : Int := if okId v then (if v ∈ d.vs then 50 else if d.vs.length ≥ 2048 then 55 else 0) else 1

noncomputable def DF.addA (d : DF) (v : Int) : DF := if d.addE v = 0 then ⟨insI v d.vs, d.es, d.mv, d.me⟩ else d

theorem DF.addA_no (d : DF) {v x : Int} (h : d.addE v = x) (hx : x ≠ 0) : d.addA v = d := by unfold DF.addA; rw [h, if_neg hx]

def zD : Array Value := #[.slice none 0 0, .slice none 0 0, .slice none 0 0, .slice none 0 0]

theorem DocR.stay {w w' : World} {a b c e : Value} {d : DF} (h : DocR w w.heap.size a b c e d) (hb : Below w.heap.size w w') : DocR w' w'.heap.size a b c e d := (h.below hb).more hb.size

theorem heap4 {W : World} {p b : Nat} (hb : b ≠ p) (x y z u : Value) : ((((W.setCell ⟨p, 0, none⟩ x).setCell ⟨p, 1, none⟩ y).setCell ⟨p, 2, none⟩ z).setCell ⟨p, 3, none⟩ u).heap[b]? = W.heap[b]? :=
  (Below.heap_setCell _ ⟨p, 3, none⟩ _ _ hb).trans ((Below.heap_setCell _ ⟨p, 2, none⟩ _ _ hb).trans ((Below.heap_setCell _ ⟨p, 1, none⟩ _ _ hb).trans (Below.heap_setCell _ ⟨p, 0, none⟩ _ _ hb)))

theorem heap2 {W : World} {p b : Nat} (hb : b ≠ p) (x y : Value) : ((W.setCell ⟨p, 0, none⟩ x).setCell ⟨p, 1, none⟩ y).heap[b]? = W.heap[b]? :=
  (Below.heap_setCell _ ⟨p, 1, none⟩ _ _ hb).trans (Below.heap_setCell _ ⟨p, 0, none⟩ _ _ hb)

/-- The block that a slice lies in. -/
def blkOf : Value → Option Nat
  | .slice (some A) _ _ => some A.block
  | _ => none

theorem OK.blkOf {α : Type} {enc : α → List Value} {k E : Nat} {w : World} {B : Nat} {v : Value} {xs : List α} (h : OK enc k E w B v xs) {b : Nat} (hb : Proofs.Ytlhkajlkapoabaa.blkOf v = some b) : B ≤ b := by
  rcases h.2.2 with ⟨e, -⟩ | ⟨g, cap, cur, e, hg, -⟩
  · rw [e] at hb; cases hb
  · rw [e] at hb
    injection hb with hb
    have hb : g = b := hb
    omega

/-- A row is the old one, or new. -/
def OldNew (w : World) (a a' : Value) : Prop := a' = a ∨ ∀ k, blkOf a' = some k → w.heap.size ≤ k

theorem OldNew.old (w : World) (a : Value) : OldNew w a a := .inl rfl

/-- The answer of a call that gives a forest and a number. -/
def DocOut (w : World) (a0 b0 c0 e0 : Value) (n : Int) (d : DF) (r : Ending) (w' : World) : Prop := ∃ a b c e, r = .returned (.tuple #[.agg #[a, b, c, e], .int .i64 n]) ∧ DocR w' w'.heap.size a b c e d ∧ Below w.heap.size w w' ∧ OldNew w a0 a ∧ OldNew w b0 b ∧ OldNew w c0 c ∧ OldNew w e0 e

set_option maxRecDepth 100000 in
set_option maxHeartbeats 4000000 in
theorem refAddV_any (w : World) (a b c e : Value) (d : DF) (v : Int) (h : DocR w w.heap.size a b c e d) (hd : d.Fit) :
    Calls Try.prog 19 #[.agg #[a, b, c, e], .int .i64 v] w fun r w' => DocOut w a b c e (d.addE v) (d.addA v) r w' := by
  obtain ⟨A1, c1, rfl, -, -, -, -⟩ := h.vs.open_
  obtain ⟨A2, c2, rfl, -, -, -, -⟩ := h.es.open_
  obtain ⟨A3, c3, rfl, -, -, -, -⟩ := h.mv.open_
  obtain ⟨A4, c4, rfl, -, -, -, -⟩ := h.me.open_
  obtain ⟨n1, hn1⟩ : ∃ n, n = d.vs.length := ⟨_, rfl⟩
  obtain ⟨n2, hn2⟩ : ∃ n, n = d.es.length := ⟨_, rfl⟩
  obtain ⟨n3, hn3⟩ : ∃ n, n = d.mv.length := ⟨_, rfl⟩
  obtain ⟨n4, hn4⟩ : ∃ n, n = d.me.length := ⟨_, rfl⟩
  rw [← hn1, ← hn2, ← hn3, ← hn4] at h ⊢
  have H := Lib.hid h
  have HF := Lib.hid hd
  have HN := Lib.hid hn1
  clear h hd hn1 hn2 hn3 hn4
  obtain ⟨W, hW⟩ : ∃ W, W = (w.alloc (.cells #[.slice A1 n1 c1, .slice A2 n2 c2, .slice A3 n3 c3, .slice A4 n4 c4] 31)).alloc (.cells zD 31) := ⟨_, rfl⟩
  obtain ⟨q, hq⟩ : ∃ q, q = w.heap.size := ⟨_, rfl⟩
  have hbx := boxE w 31 #[.slice A1 n1 c1, .slice A2 n2 c2, .slice A3 n3 c3, .slice A4 n4 c4] 31 zD
  have hqs : q + 1 < W.heap.size := by rw [hW, hq]; simp
  rw [← hW, ← hq] at hbx
  unfold zD at hW hbx
  have HW := Lib.hid hW
  have HQ := Lib.hid hq
  have HQS := Lib.hid hqs
  have BX := Lib.hid (show BoxE w W q 31 #[.slice A1 n1 c1, .slice A2 n2 c2, .slice A3 n3 c3, .slice A4 n4 c4] 31 #[.slice none 0 0, .slice none 0 0, .slice none 0 0, .slice none 0 0] from hq ▸ hbx)
  clear hW hq hbx hqs
  go_enter Try.func19, Try.ntmps19
  go_upto_region 1 with fail
  rw [← HW.out]
  try simp only [← HQ.out]
  have d0 := BX.out.b0.cell 0
  have d1 := BX.out.b0.cell 1
  have d2 := BX.out.b0.cell 2
  have d3 := BX.out.b0.cell 3
  have dr0 := BX.out.b1.cell 0
  have df0 := BX.out.b1.frozen 0
  have dr1 := BX.out.b1.cell 1
  have df1 := BX.out.b1.frozen 1
  have dr2 := BX.out.b1.cell 2
  have df2 := BX.out.b1.frozen 2
  have dr3 := BX.out.b1.cell 3
  have df3 := BX.out.b1.frozen 3
  have HR := Lib.hid ((H.out.below BX.out.below).more BX.out.below.size)
  go_wp2_with fail
  refine (badId_any v W).mono ?_
  rintro r wx ⟨rfl, hwx⟩
  rw [hwx]
  clear hwx wx
  by_cases h0 : okId v
  · rw [isIdI_yes h0]
    have H0 := Lib.hid h0
    clear h0
    go_wp2_with fail
    refine (has_any _ d.vs W W.heap.size HR.out.vs v).mono ?_
    by_cases hin : v ∈ d.vs
    · rw [decide_eq_true hin]
      have HE : Hid (d.addE v = 50) := Lib.hid (by unfold DF.addE; rw [if_pos H0.out, if_pos hin])
      rintro r wx ⟨rfl, hwx⟩
      rw [hwx]
      clear hwx wx hin
      go_wp2_with fail
      refine ret_cell_tmp2 (p := 4) (u := 5) (v := .agg #[.slice A1 n1 c1, .slice A2 n2 c2, .slice A3 n3 c3, .slice A4 n4 c4]) (x := .int .i64 50) rfl rfl rfl (by go_simp) rfl ?_
      rw [HE.out, d.addA_no HE.out (by decide)]
      exact ⟨_, _, _, _, rfl, H.out.stay (BX.out.set4 _ _ _ _), BX.out.set4 _ _ _ _, .old _ _, .old _ _, .old _ _, .old _ _⟩
    · rw [decide_eq_false hin]
      have HIN := Lib.hid hin
      rintro r wx ⟨rfl, hwx⟩
      rw [hwx]
      clear hwx wx hin
      by_cases hm : (n1 : Int) ≥ 2048
      · have hmd : decide ((n1 : Int) ≥ 2048) = true := by simpa using hm
        have HE : Hid (d.addE v = 55) := Lib.hid (by unfold DF.addE; rw [if_pos H0.out, if_neg HIN.out, if_pos (by have := HN.out; omega)])
        go_wp2_with fail
        refine ret_cell_tmp2 (p := 4) (u := 5) (v := .agg #[.slice A1 n1 c1, .slice A2 n2 c2, .slice A3 n3 c3, .slice A4 n4 c4]) (x := .int .i64 55) rfl rfl rfl (by go_simp) rfl ?_
        rw [HE.out, d.addA_no HE.out (by decide)]
        exact ⟨_, _, _, _, rfl, H.out.stay (BX.out.set4 _ _ _ _), BX.out.set4 _ _ _ _, .old _ _, .old _ _, .old _ _, .old _ _⟩
      · have hmd : decide ((n1 : Int) ≥ 2048) = false := by simpa using hm
        have HE : Hid (d.addE v = 0) := Lib.hid (by unfold DF.addE; rw [if_pos H0.out, if_neg HIN.out, if_neg (by have := HN.out; omega)])
        have HA : Hid (d.addA v = ⟨insI v d.vs, d.es, d.mv, d.me⟩) := Lib.hid (by unfold DF.addA; rw [if_pos HE.out])
        have HL : Hid (d.vs.length ≤ 100000) := Lib.hid (by have := HF.out.nv; omega)
        go_wp2_with fail
        go_region_law (first | (go_simp; go_at_call 33; refine (With_any _ d.vs v _ W.heap.size (RK.drew HR.out.vs) (by simp) HL.out).mono ?_; rintro r w3 ⟨v3, rfl, o3, b3⟩; obtain ⟨A5, c5, hv5, -, -, -, -⟩ := (o3.rk encI_len (Nat.le_refl _)).open_; obtain ⟨n5, hn5⟩ : ∃ n, n = (insI v d.vs).length := ⟨_, rfl⟩; rw [← hn5] at hv5; subst hv5; have O3 := Lib.hid o3; have BX3 := Lib.hid (BX.out.after ((Below.refl _ W).drew.trans b3)); have d0 := BX3.out.b0.cell 0; have d1 := BX3.out.b0.cell 1; have d2 := BX3.out.b0.cell 2; have d3 := BX3.out.b0.cell 3; have dr0 := BX3.out.b1.cell 0; have df0 := BX3.out.b1.frozen 0; have dr1 := BX3.out.b1.cell 1; have df1 := BX3.out.b1.frozen 1; have dr2 := BX3.out.b1.cell 2; have df2 := BX3.out.b1.frozen 2; have dr3 := BX3.out.b1.cell 3; have df3 := BX3.out.b1.frozen 3; have g0 := BX3.out.b0.frozen 0; have g1 := BX3.out.b0.frozen 1; clear b3 o3 hn5))
        all_goals (
          go_wp2_with fail
          refine ret_cell_tmp2 (p := 4) (u := 5) (v := .agg #[.slice A5 n5 c5, .slice A2 n2 c2, .slice A3 n3 c3, .slice A4 n4 c4]) (x := .int .i64 0) rfl rfl rfl (by go_simp) rfl ?_
          rw [HE.out, HA.out]
          have hlow := below4 (below2 BX3.out.below BX3.out.lo (.slice A5 n5 c5) (.slice A2 n2 c2)) (show w.heap.size ≤ q + 1 by have := BX3.out.lo; omega) (.slice A5 n5 c5) (.slice A2 n2 c2) (.slice A3 n3 c3) (.slice A4 n4 c4)
          have hold := H.out.stay hlow
          have hnew := (O3.out.same (fun b hb => (heap4 (show b ≠ q + 1 by have := (O3.out.lt b hb).1; have := HQS.out; simp at *; omega) (.slice A5 n5 c5) (.slice A2 n2 c2) (.slice A3 n3 c3) (.slice A4 n4 c4)).trans (heap2 (show b ≠ q by have := (O3.out.lt b hb).1; have := HQS.out; simp at *; omega) (.slice A5 n5 c5) (.slice A2 n2 c2)))).rk encI_len (Nat.le_refl _)
          exact ⟨_, _, _, _, rfl, ⟨hnew, hold.es, hold.mv, hold.me⟩, hlow, (.inr fun k e => Nat.le_trans BX.out.below.size (O3.out.blkOf e)), .old _ _, .old _ _, .old _ _⟩)
  · rw [isIdI_no h0]
    have HE : Hid (d.addE v = 1) := Lib.hid (by unfold DF.addE; rw [if_neg h0])
    clear h0
    go_wp2_with fail
    refine ret_cell_tmp2 (p := 4) (u := 5) (v := .agg #[.slice A1 n1 c1, .slice A2 n2 c2, .slice A3 n3 c3, .slice A4 n4 c4]) (x := .int .i64 1) rfl rfl rfl (by go_simp) rfl ?_
    rw [HE.out, d.addA_no HE.out (by decide)]
    exact ⟨_, _, _, _, rfl, H.out.stay (BX.out.set4 _ _ _ _), BX.out.set4 _ _ _ _, .old _ _, .old _ _, .old _ _, .old _ _⟩

end Go.Proofs.Ytlhkajlkapoabaa

/-
  The document's DelV at any forest.
-/
namespace Go.Proofs.Ytlhkajlkapoabaa
open Go.RowKit Go.Maps
set_option linter.unusedVariables false

open Classical in
noncomputable def DF.delE (d : DF) (v : Int) : Int := if okId v then (if v ∈ d.vs then (if ∃ e ∈ d.es, e.u = v ∨ e.v = v then 52 else 0) else 51) else 1

noncomputable def DF.delA (d : DF) (v : Int) : DF := if d.delE v = 0 then ⟨d.vs.filter (· ≠ v), d.es, d.mv.filter (· ≠ v), d.me⟩ else d

theorem DF.delA_no (d : DF) {v x : Int} (h : d.delE v = x) (hx : x ≠ 0) : d.delA v = d := by unfold DF.delA; rw [h, if_neg hx]

theorem BoxE.put2 {w W : World} {p : Nat} {t t2 : TypeId} {x0 x1 x2 x3 : Value} {cs2 : Array Value} (h : BoxE w W p t #[x0, x1, x2, x3] t2 cs2) (y0 y1 : Value) : BoxE w ((W.setCell ⟨p, 0, none⟩ y0).setCell ⟨p, 1, none⟩ y1) p t #[y0, y1, x2, x3] t2 cs2 := by
  refine ⟨by simpa using (h.b0.set_ 0 y0).set_ 1 y1, ?_, below2 h.below h.lo _ _, h.lo⟩
  have h1 := h.b1
  unfold Blk at h1 ⊢
  rw [heap2 (by omega)]
  exact h1

theorem heap5 {W : World} {q b : Nat} (hb : b ≠ q) (hb' : b ≠ q + 1) (x : Value) (i : Nat) (y0 y1 y2 y3 : Value) : (((((W.setCell ⟨q, i, none⟩ x).setCell ⟨q + 1, 0, none⟩ y0).setCell ⟨q + 1, 1, none⟩ y1).setCell ⟨q + 1, 2, none⟩ y2).setCell ⟨q + 1, 3, none⟩ y3).heap[b]? = W.heap[b]? :=
  (heap4 hb' _ _ _ _).trans (Below.heap_setCell _ ⟨q, i, none⟩ _ _ hb)

set_option maxRecDepth 100000 in
set_option maxHeartbeats 4000000 in
theorem refDelV_any (w : World) (a b c e : Value) (d : DF) (v : Int) (h : DocR w w.heap.size a b c e d) (hd : d.Fit) (hm : d.mv.length ≤ 4096) :
    Calls Try.prog 20 #[.agg #[a, b, c, e], .int .i64 v] w fun r w' => DocOut w a b c e (d.delE v) (d.delA v) r w' := by
  obtain ⟨A1, c1, rfl, -, -, -, -⟩ := h.vs.open_
  obtain ⟨A2, c2, rfl, -, -, -, HC⟩ := h.es.open_
  obtain ⟨A3, c3, rfl, -, -, -, -⟩ := h.mv.open_
  obtain ⟨A4, c4, rfl, -, -, -, -⟩ := h.me.open_
  obtain ⟨n1, hn1⟩ : ∃ n, n = d.vs.length := ⟨_, rfl⟩
  obtain ⟨n2, hn2⟩ : ∃ n, n = d.es.length := ⟨_, rfl⟩
  obtain ⟨n3, hn3⟩ : ∃ n, n = d.mv.length := ⟨_, rfl⟩
  obtain ⟨n4, hn4⟩ : ∃ n, n = d.me.length := ⟨_, rfl⟩
  rw [← hn1, ← hn2, ← hn3, ← hn4] at h ⊢
  have H := Lib.hid h
  have HF := Lib.hid hd
  have HN := Lib.hid hn1
  have HN2 := Lib.hid hn2
  have hl2 : n2 ≤ 8192 := by rw [hn2]; exact hd.ne
  have HMV : Hid (d.mv.length ≤ 100000) := Lib.hid (by omega)
  clear h hd hm hn1 hn2 hn3 hn4
  obtain ⟨W, hW⟩ : ∃ W, W = (w.alloc (.cells #[.slice A1 n1 c1, .slice A2 n2 c2, .slice A3 n3 c3, .slice A4 n4 c4] 31)).alloc (.cells zD 31) := ⟨_, rfl⟩
  obtain ⟨q, hq⟩ : ∃ q, q = w.heap.size := ⟨_, rfl⟩
  have hbx := boxE w 31 #[.slice A1 n1 c1, .slice A2 n2 c2, .slice A3 n3 c3, .slice A4 n4 c4] 31 zD
  have hqs : q + 1 < W.heap.size := by rw [hW, hq]; simp
  rw [← hW, ← hq] at hbx
  unfold zD at hW hbx
  have HW := Lib.hid hW
  have HQ := Lib.hid hq
  have HQS := Lib.hid hqs
  have BX := Lib.hid (show BoxE w W q 31 #[.slice A1 n1 c1, .slice A2 n2 c2, .slice A3 n3 c3, .slice A4 n4 c4] 31 #[.slice none 0 0, .slice none 0 0, .slice none 0 0, .slice none 0 0] from hq ▸ hbx)
  clear hW hq hbx hqs
  go_enter Try.func20, Try.ntmps20
  go_upto_region 1 with fail
  rw [← HW.out]
  try simp only [← HQ.out]
  have d0 := BX.out.b0.cell 0
  have d1 := BX.out.b0.cell 1
  have d2 := BX.out.b0.cell 2
  have d3 := BX.out.b0.cell 3
  have dr0 := BX.out.b1.cell 0
  have df0 := BX.out.b1.frozen 0
  have dr1 := BX.out.b1.cell 1
  have df1 := BX.out.b1.frozen 1
  have dr2 := BX.out.b1.cell 2
  have df2 := BX.out.b1.frozen 2
  have dr3 := BX.out.b1.cell 3
  have df3 := BX.out.b1.frozen 3
  have HR := Lib.hid ((H.out.below BX.out.below).more BX.out.below.size)
  go_wp2_with fail
  refine (badId_any v W).mono ?_
  rintro r wx ⟨rfl, hwx⟩
  rw [hwx]
  clear hwx wx
  by_cases h0 : okId v
  · rw [isIdI_yes h0]
    have H0 := Lib.hid h0
    clear h0
    go_wp2_with fail
    refine (has_any _ d.vs W W.heap.size HR.out.vs v).mono ?_
    by_cases hin : v ∈ d.vs
    · rw [decide_eq_true hin]
      have HIN := Lib.hid hin
      rintro r wx ⟨rfl, hwx⟩
      rw [hwx]
      clear hwx wx hin
      go_wp2_with fail
      go_loopw [6] (fun i wr => ∃ k : Nat, k ≤ n2 ∧ i = .int .i64 k ∧ Hid (∀ e ∈ d.es.take k, ¬ (e.u = v ∨ e.v = v)) ∧ wr = W) (fun i _ => n2 - (intOf i).toNat)
      case atStart => exact ⟨0, Nat.zero_le _, rfl, Lib.hid (by simp), rfl⟩
      case round =>
        obtain ⟨k, hk, rfl, HT, hwr⟩ := hrel
        rw [hwr]
        clear hwr
        by_cases hkn : k < n2
        · have hkv : k < d.es.length := by have := HN2.out; omega
          obtain ⟨b1, o1, rfl, hb1, hx⟩ := HC.out k hkv
          obtain ⟨⟨id, p1, p2, p3⟩, hy⟩ : ∃ y, y = d.es[k] := ⟨_, rfl⟩
          have HTK := Lib.hid (List.take_succ_eq_append_getElem hkv)
          have HMEM := Lib.hid (List.getElem_mem hkv)
          rw [← hy] at hx HTK HMEM
          obtain ⟨-, x1, x2, -⟩ := cellD hx
          dsimp only at x1 x2
          have x1 := (BX.out.below.cell (p := ⟨b1, o1 + k * 4 + 1, none⟩) hb1).trans x1
          have x2 := (BX.out.below.cell (p := ⟨b1, o1 + k * 4 + 2, none⟩) hb1).trans x2
          have hkd : decide ((k : Int) < (n2 : Int)) = true := by simpa using hkn
          have hk2 : (k : Int) < (n2 : Int) := by omega
          clear hx hy
          by_cases hp1 : p1 = v
          · have HE : Hid (d.delE v = 52) := Lib.hid (by unfold DF.delE; rw [if_pos H0.out, if_pos HIN.out, if_pos ⟨_, HMEM.out, .inl hp1⟩])
            subst hp1
            have hid : (p1 == p1) = true := by simp
            go_wp2_with fail
            refine ret_cell_tmp2 (p := 4) (u := 5) (v := .agg #[.slice A1 n1 c1, .slice (some ⟨b1, o1, none⟩) n2 c2, .slice A3 n3 c3, .slice A4 n4 c4]) (x := .int .i64 52) rfl rfl rfl (by go_simp) rfl ?_
            rw [HE.out, d.delA_no HE.out (by decide)]
            exact ⟨_, _, _, _, rfl, H.out.stay (BX.out.set4 _ _ _ _), BX.out.set4 _ _ _ _, .old _ _, .old _ _, .old _ _, .old _ _⟩
          · have hid : (p1 == v) = false := by simpa using hp1
            by_cases hp2 : p2 = v
            · have HE : Hid (d.delE v = 52) := Lib.hid (by unfold DF.delE; rw [if_pos H0.out, if_pos HIN.out, if_pos ⟨_, HMEM.out, .inr hp2⟩])
              subst hp2
              have hid2 : (p2 == p2) = true := by simp
              go_wp2_with fail
              refine ret_cell_tmp2 (p := 4) (u := 5) (v := .agg #[.slice A1 n1 c1, .slice (some ⟨b1, o1, none⟩) n2 c2, .slice A3 n3 c3, .slice A4 n4 c4]) (x := .int .i64 52) rfl rfl rfl (by go_simp) rfl ?_
              rw [HE.out, d.delA_no HE.out (by decide)]
              exact ⟨_, _, _, _, rfl, H.out.stay (BX.out.set4 _ _ _ _), BX.out.set4 _ _ _ _, .old _ _, .old _ _, .old _ _, .old _ _⟩
            · have hid2 : (p2 == v) = false := by simpa using hp2
              go_wp2_with fail
              go_roundw
              case rel =>
                refine ⟨k + 1, by omega, by go_num, Lib.hid ?_, by first | rfl | trivial⟩
                intro e he
                rw [HTK.out, List.mem_append] at he
                rcases he with he | he
                · exact HT.out e he
                · rw [List.mem_singleton.1 he]; exact fun h => h.elim hp1 hp2
              case measure => simp [intOf]; omega
        · obtain rfl : k = n2 := by omega
          have hkd : decide ((k : Int) < (k : Int)) = false := by simp
          have HE : Hid (d.delE v = 0) := Lib.hid (by
            have h1 := HT.out
            rw [List.take_of_length_le (by have := HN2.out; omega)] at h1
            unfold DF.delE
            rw [if_pos H0.out, if_pos HIN.out, if_neg (by rintro ⟨e, he, h2⟩; exact h1 e he h2)])
          have HA : Hid (d.delA v = ⟨d.vs.filter (· ≠ v), d.es, d.mv.filter (· ≠ v), d.me⟩) := Lib.hid (by unfold DF.delA; rw [if_pos HE.out])
          have HL : Hid (d.vs.length ≤ 100000) := Lib.hid (by have := HF.out.nv; omega)
          go_wp2_with fail
          go_region_law (first | (go_simp; go_at_call 34; refine (Without_any _ d.vs v _ W.heap.size (RK.drew HR.out.vs) (by simp) HL.out).mono ?_; rintro r w3 ⟨v3, rfl, o3, b3⟩; obtain ⟨A5, c5, hv5, -, -, -, -⟩ := (o3.rk encI_len (Nat.le_refl _)).open_; obtain ⟨n5, hn5⟩ : ∃ n, n = (d.vs.filter (· ≠ v)).length := ⟨_, rfl⟩; rw [← hn5] at hv5; subst hv5; have O3 := Lib.hid o3; have BX3 := Lib.hid (BX.out.after ((Below.refl _ W).drew.trans b3)); have Z3 : Hid (W.heap.size ≤ w3.heap.size) := Lib.hid b3.size; have d0 := BX3.out.b0.cell 0; have d1 := BX3.out.b0.cell 1; have d2 := BX3.out.b0.cell 2; have d3 := BX3.out.b0.cell 3; have dr0 := BX3.out.b1.cell 0; have df0 := BX3.out.b1.frozen 0; have dr1 := BX3.out.b1.cell 1; have df1 := BX3.out.b1.frozen 1; have dr2 := BX3.out.b1.cell 2; have df2 := BX3.out.b1.frozen 2; have dr3 := BX3.out.b1.cell 3; have df3 := BX3.out.b1.frozen 3; have g0 := BX3.out.b0.frozen 0; have g1 := BX3.out.b0.frozen 1; have g2 := BX3.out.b0.frozen 2; clear b3 o3 hn5))
          all_goals (
            go_wp2_with fail
            have BX5 := Lib.hid (BX3.out.put2 (.slice A5 n5 c5) (.slice A2 k c2))
            have O5 := Lib.hid (O3.out.same (w' := (w3.setCell ⟨q, 0, none⟩ (.slice A5 n5 c5)).setCell ⟨q, 1, none⟩ (.slice A2 k c2)) (fun b hb => heap2 (show b ≠ q by have := (O3.out.lt b hb).1; have := HQS.out; simp at *; omega) _ _))
            have Z5 : Hid (W.heap.size ≤ ((w3.setCell ⟨q, 0, none⟩ (.slice A5 n5 c5)).setCell ⟨q, 1, none⟩ (.slice A2 k c2)).heap.size) := Lib.hid (by have := Z3.out; simpa using this)
            obtain ⟨W5, hW5⟩ : ∃ W5, W5 = (w3.setCell ⟨q, 0, none⟩ (.slice A5 n5 c5)).setCell ⟨q, 1, none⟩ (.slice A2 k c2) := ⟨_, rfl⟩
            rw [← hW5] at BX5 O5 Z5 ⊢
            clear hW5 d0 d1 d2 d3 dr0 dr1 dr2 dr3 df0 df1 df2 df3 g0 g1 g2
            refine (Without_any _ d.mv v W5 w.heap.size (H.out.mv.below BX5.out.below) BX5.out.below.size HMV.out).mono ?_
            rintro r w6 ⟨v6, rfl, o6, b6⟩
            obtain ⟨A6, c6, hv6, -, -, -, -⟩ := (o6.rk encI_len (Nat.le_refl _)).open_
            obtain ⟨n6, hn6⟩ : ∃ n, n = (d.mv.filter (· ≠ v)).length := ⟨_, rfl⟩
            rw [← hn6] at hv6
            subst hv6
            have O6 := Lib.hid o6
            have O56 := Lib.hid (O5.out.below b6)
            have BX6 := Lib.hid (BX5.out.after b6)
            clear o6 b6 hn6
            have d0 := BX6.out.b0.cell 0
            have d1 := BX6.out.b0.cell 1
            have d2 := BX6.out.b0.cell 2
            have d3 := BX6.out.b0.cell 3
            have dr0 := BX6.out.b1.cell 0
            have df0 := BX6.out.b1.frozen 0
            have dr1 := BX6.out.b1.cell 1
            have df1 := BX6.out.b1.frozen 1
            have dr2 := BX6.out.b1.cell 2
            have df2 := BX6.out.b1.frozen 2
            have dr3 := BX6.out.b1.cell 3
            have df3 := BX6.out.b1.frozen 3
            have g2 := BX6.out.b0.frozen 2
            go_wp2_with fail
            refine ret_cell_tmp2 (p := 4) (u := 5) (v := .agg #[.slice A5 n5 c5, .slice A2 k c2, .slice A6 n6 c6, .slice A4 n4 c4]) (x := .int .i64 0) rfl rfl rfl (by go_simp) rfl ?_
            rw [HE.out, HA.out]
            have hlow := below4 (BX6.out.below.setCell (p := ⟨q, 2, none⟩) BX6.out.lo (.slice A6 n6 c6)) (show w.heap.size ≤ q + 1 by have := BX6.out.lo; omega) (.slice A5 n5 c5) (.slice A2 k c2) (.slice A6 n6 c6) (.slice A4 n4 c4)
            have hold := H.out.stay hlow
            have hn1 := (O56.out.same (fun b hb => heap5 (show b ≠ q by have := (O56.out.lt b hb).1; have := HQS.out; simp at *; omega) (show b ≠ q + 1 by have := (O56.out.lt b hb).1; have := HQS.out; simp at *; omega) (.slice A6 n6 c6) 2 (.slice A5 n5 c5) (.slice A2 k c2) (.slice A6 n6 c6) (.slice A4 n4 c4))).rk encI_len (Nat.le_refl _)
            have hn2 := (O6.out.same (fun b hb => heap5 (show b ≠ q by have := (O6.out.lt b hb).1; have := HQS.out; have := Z5.out; simp at *; omega) (show b ≠ q + 1 by have := (O6.out.lt b hb).1; have := HQS.out; have := Z5.out; simp at *; omega) (.slice A6 n6 c6) 2 (.slice A5 n5 c5) (.slice A2 k c2) (.slice A6 n6 c6) (.slice A4 n4 c4))).rk encI_len (Nat.le_refl _)
            exact ⟨_, _, _, _, rfl, ⟨hn1, hold.es, hn2, hold.me⟩, hlow, (.inr fun k e => Nat.le_trans BX.out.below.size (O3.out.blkOf e)), .old _ _, (.inr fun k e => Nat.le_trans BX5.out.below.size (O6.out.blkOf e)), .old _ _⟩)
    · rw [decide_eq_false hin]
      have HE : Hid (d.delE v = 51) := Lib.hid (by unfold DF.delE; rw [if_pos H0.out, if_neg hin])
      rintro r wx ⟨rfl, hwx⟩
      rw [hwx]
      clear hwx wx hin
      go_wp2_with fail
      refine ret_cell_tmp2 (p := 4) (u := 5) (v := .agg #[.slice A1 n1 c1, .slice A2 n2 c2, .slice A3 n3 c3, .slice A4 n4 c4]) (x := .int .i64 51) rfl rfl rfl (by go_simp) rfl ?_
      rw [HE.out, d.delA_no HE.out (by decide)]
      exact ⟨_, _, _, _, rfl, H.out.stay (BX.out.set4 _ _ _ _), BX.out.set4 _ _ _ _, .old _ _, .old _ _, .old _ _, .old _ _⟩
  · rw [isIdI_no h0]
    have HE : Hid (d.delE v = 1) := Lib.hid (by unfold DF.delE; rw [if_neg h0])
    clear h0
    go_wp2_with fail
    refine ret_cell_tmp2 (p := 4) (u := 5) (v := .agg #[.slice A1 n1 c1, .slice A2 n2 c2, .slice A3 n3 c3, .slice A4 n4 c4]) (x := .int .i64 1) rfl rfl rfl (by go_simp) rfl ?_
    rw [HE.out, d.delA_no HE.out (by decide)]
    exact ⟨_, _, _, _, rfl, H.out.stay (BX.out.set4 _ _ _ _), BX.out.set4 _ _ _ _, .old _ _, .old _ _, .old _ _, .old _ _⟩

end Go.Proofs.Ytlhkajlkapoabaa

/-
  A row of one's own lies in one block.
-/
namespace Go.Proofs.Ytlhkajlkapoabaa
open Go.RowKit Go.Maps
set_option linter.unusedVariables false

theorem OK.blk {α : Type} {enc : α → List Value} {k E : Nat} {w : World} {B : Nat} {v : Value} {xs : List α} (h : OK enc k E w B v xs) {b : Nat} (hb : v.ownBlock = some b) : ∃ cs, Blk w b E cs := by
  rcases h.2.2 with ⟨e, _⟩ | ⟨q, c, cur, e, hq, hh, r⟩
  · rw [e] at hb; cases hb
  · rw [e] at hb
    injection hb with hb
    subst hb
    exact ⟨cur, hh⟩

end Go.Proofs.Ytlhkajlkapoabaa
