/-
  The walks of skeinref07's put and settled.
-/
import Derived.Test.YtdghanhpeekbhaaB2
namespace Go.Proofs.Ytdghanhpeekbhaa
open Go.RowKit Go.Maps
set_option linter.unusedVariables false

/-- One spot more. -/
theorem wpList_appSp {w : World} {B : Nat} {v : Value} {xs : List Spt} {f : Nat → List Nat × Option (List Nat)} {a1 a2 : Option Addr} {n1 n2 c1 c2 : Nat} {lo : Bool} {ops : Array Oper} {rest : List Oper} {o : Oper} {a : Act} {Q : Exit → Act → World → Prop}
    (h : SpRow w B v xs f) (hy : SptAt w B ⟨(a1, n1, c1), (a2, n2, c2), lo⟩ (f xs.length)) (hgd : o.guard = none) (s x : Operand)
    (ho : o.op = .call { callee := .builtin .append, args := #[s, x], argTypes := #[43, 43] })
    (hs : a.eval s = v) (hx : a.eval x = .slice (some ⟨w.heap.size, 0, none⟩) 1 1) (hlen : xs.length + 1 ≤ 1000000) (hB : B ≤ w.heap.size)
    (hK : ∀ A' c' w', SpRow w' B (.slice A' (xs.length + 1) c') (xs ++ [⟨(a1, n1, c1), (a2, n2, c2), lo⟩]) f → Mod (fun q => some q = v.ownBlock) w w' → (∀ b, (Value.slice A' (xs.length + 1) c').ownBlock = some b → v.ownBlock = some b ∨ w.heap.size ≤ b) → wpList Try.prog ops Q rest (a.put o.dst (.slice A' (xs.length + 1) c')) w') :
    wpList Try.prog ops Q (o :: rest) a (w.alloc (.cells #[.slice a1 n1 c1, .slice a2 n2 c2, .bool lo] 87)) := by
  refine wpList_appE etSpots encSp_len encSp_one (y := (⟨(a1, n1, c1), (a2, n2, c2), lo⟩ : Spt)) hgd s x ho hs (h.row.alloc _) w.heap.size hx (by intro j u hu; rw [(Blk.new w _ _).cell j]; simpa [encSp] using hu) hlen (by simp; omega) ?_
  intro v' w' k1 k2 k3
  have hm : Mod (fun q => some q = v.ownBlock) w w' := ((Mod.refl _ w).alloc _).trans' (Mod.of_grown k2)
  have hl : (xs ++ [(⟨(a1, n1, c1), (a2, n2, c2), lo⟩ : Spt)]).length = xs.length + 1 := by simp
  obtain ⟨A', c', e, -, -, -, -⟩ := (k1.rk encSp_len (Nat.le_refl _)).open_
  rw [hl] at e
  subst e
  refine hK A' c' w' (h.snoc hy k1 hm) hm (fun b hb => ?_)
  rcases k3 with k3 | k3
  · exact .inl (by rw [← k3]; exact hb)
  · rw [k3] at hb; injection hb with hb; simp at hb; exact .inr (by omega)
/-- A spot as it is read. -/
structure SpGet (w : World) (B : Nat) (A : Option Addr) (i : Nat) (g : List Nat × Option (List Nat)) (b o : Nat) (a1 a2 : Option Addr) (n1 n2 c1 c2 : Nat) (lo : Bool) : Prop where
  eq : A = some ⟨b, o, none⟩
  lt : b < w.heap.size
  x0 : w.cell? ⟨b, o + i * 3, none⟩ = some (.slice a1 n1 c1)
  x1 : w.cell? ⟨b, o + i * 3 + 1, none⟩ = some (.slice a2 n2 c2)
  x2 : w.cell? ⟨b, o + i * 3 + 2, none⟩ = some (.bool lo)
  at_ : SptAt w B ⟨(a1, n1, c1), (a2, n2, c2), lo⟩ g
theorem SpRow.get {w : World} {B : Nat} {A : Option Addr} {n c : Nat} {xs : List Spt} {f : Nat → List Nat × Option (List Nat)} (h : SpRow w B (.slice A n c) xs f) (hn : xs.length = n) {i : Nat} (hi : i < n) : ∃ b o a1 n1 c1 a2 n2 c2 lo, SpGet w B A i (f i) b o a1 a2 n1 n2 c1 c2 lo := by
  obtain ⟨A', c', e, HC⟩ := h.open_
  injection e with e1 e2 e3
  obtain ⟨b, o, e4, hb, ⟨⟨a1, n1, c1⟩, ⟨a2, n2, c2⟩, lo⟩, hx, x0, x1, x2, hs⟩ := HC.out i (by omega)
  exact ⟨b, o, a1, n1, c1, a2, n2, c2, lo, ⟨by rw [e1, e4], hb, x0, x1, x2, hs⟩⟩
theorem SpGet.below {w w' : World} {B : Nat} {A : Option Addr} {i : Nat} {g : List Nat × Option (List Nat)} {b o : Nat} {a1 a2 : Option Addr} {n1 n2 c1 c2 : Nat} {lo : Bool} (h : SpGet w B A i g b o a1 a2 n1 n2 c1 c2 lo) (hb : Below w.heap.size w w') : SpGet w' B A i g b o a1 a2 n1 n2 c1 c2 lo :=
  ⟨h.eq, Nat.lt_of_lt_of_le h.lt hb.size, (hb.cell (p := ⟨b, o + i * 3, none⟩) h.lt).trans h.x0, (hb.cell (p := ⟨b, o + i * 3 + 1, none⟩) h.lt).trans h.x1, (hb.cell (p := ⟨b, o + i * 3 + 2, none⟩) h.lt).trans h.x2, h.at_.below hb⟩

set_option maxRecDepth 100000 in
set_option maxHeartbeats 2000000 in
theorem settled_any (w : World) (B : Nat) (A : Option Addr) (n c : Nat) (xs : List Spt) (f : Nat → List Nat × Option (List Nat)) (h : SpRow w B (.slice A n c) xs f) (hn : xs.length = n) (hn4 : n ≤ 4096) (hB : B ≤ w.heap.size) :
    Calls Try.prog 79 #[.slice A n c] w fun e w' => ∃ A' c' xs', e = .returned (.slice A' n c') ∧ SpRow w' B (.slice A' n c') xs' (fun i => (hasL (f i), none)) ∧ xs'.length = n ∧ Below w.heap.size w w' := by
  have H := Lib.hid h
  have HN := Lib.hid hn
  have HBW := Lib.hid hB
  clear h hn hB
  go_enter Try.func79, Try.ntmps79
  go_wp2_with fail
  go_loopw [3, 4] (fun x i wr => ∃ (k : Nat) (A1 : Option Addr) (c1 : Nat) (ys : List Spt), k ≤ n ∧ i = .int .i64 (k : Int) ∧ x = .slice A1 k c1 ∧ Hid (ys.length = k) ∧ Hid (SpRow wr B (.slice A1 k c1) ys (fun i => (hasL (f i), none))) ∧ Hid (∀ b, (Value.slice A1 k c1).ownBlock = some b → w.heap.size ≤ b) ∧ Hid (Below w.heap.size w wr)) (fun x i wr => n - (intOf i).toNat)
  case atStart => exact ⟨0, _, 0, [], Nat.zero_le _, rfl, rfl, rfl, SpRow.made HBW.out, Lib.hid (fun b hb => by injection hb with hb; simp at hb; omega), Lib.hid ((Below.refl _ _).alloc (Nat.le_refl _) _)⟩
  case round =>
    obtain ⟨k, A1, c1, ys, hk, rfl, rfl, HYL, HY, HOW, HB⟩ := hrel
    by_cases hlt : k < n
    · obtain ⟨b, o, a1, n1, d1, a2, n2, d2, lo, hg⟩ := ((H.out.below HB.out).get HN.out hlt)
      obtain rfl := hg.eq
      have x0 := hg.x0
      have x1 := hg.x1
      have x2 := hg.x2
      have HG := Lib.hid hg
      clear hg
      go_wp2_with fail
      refine (has_at wr B a1 a2 n1 n2 d1 d2 lo _ HG.out.at_).mono ?_
      rintro e w1 ⟨⟨a3, n3, d3⟩, rfl, ho1, hb1⟩
      have HO1 := Lib.hid ho1
      have HB1 := Lib.hid hb1
      have HYL1 : Hid (ys.length + 1 ≤ 1000000) := Lib.hid (by rw [HYL.out]; omega)
      have HSZ1 : Hid (B ≤ w1.heap.size) := Lib.hid (Nat.le_trans HBW.out (Nat.le_trans HB.out.size hb1.size))
      clear ho1 hb1
      go_wp2_with (at_builtin; go_must (refine wpList_appSp (f := fun i => (hasL (f i), none)) (HY.out.below HB1.out) (a1 := a3) (n1 := n3) (c1 := d3) (a2 := none) (n2 := 0) (c2 := 0) (lo := false) ⟨by rw [HYL.out]; exact HO1.out, rfl, fun l hl => by cases hl⟩ rfl (.tmp 12) (.tmp 19) rfl rfl rfl HYL1.out HSZ1.out ?_); intro A4 c4 w4 q1 q2 q3; rw [HYL.out] at q1 q3 ⊢; have Q1 := Lib.hid q1; have Q2 := Lib.hid q2; have Q3 := Lib.hid q3; clear q1 q2 q3)
      go_roundw
      case rel =>
        refine ⟨k + 1, A4, c4, _, by omega, by go_num, rfl, Lib.hid (by simp [HYL.out]), Q1, Lib.hid (fun b hb => ?_), Lib.hid ?_⟩
        · rcases Q3.out b hb with h | h
          · exact HOW.out b h
          · have := HB1.out.size; have := HB.out.size; omega
        · exact (((Mod.of_below (HB.out.trans (HB1.out.mono HB.out.size)) (fun q => w.heap.size ≤ q)).trans Q2.out (fun q _ e => HOW.out q e.symm)).below (Nat.le_refl _) (fun _ h => h))
      case measure => simp [intOf]; omega
    · obtain rfl : k = n := by omega
      go_wp2_with fail
      go_ret
      exact ⟨A1, c1, ys, rfl, HY.out, HYL.out, HB.out⟩

theorem boxes3s (w : World) (a b d : Array Value) (ta tb td : TypeId) : ∃ W, W = ((w.alloc (.cells a ta)).alloc (.cells b tb)).alloc (.cells d td) ∧ Blk W w.heap.size ta a ∧ Blk W (w.heap.size + 1) tb b ∧ Blk W (w.heap.size + 2) td d ∧ Below w.heap.size w W ∧ W.heap.size = w.heap.size + 3 := by
  have h1 := ((Blk.new w ta a).alloc (.cells b tb)).alloc (.cells d td)
  have h2 := (Blk.new (w.alloc (.cells a ta)) tb b).alloc (.cells d td)
  have h3 := Blk.new ((w.alloc (.cells a ta)).alloc (.cells b tb)) td d
  simp only [size_alloc_] at h2 h3
  exact ⟨_, rfl, h1, h2, h3, (((Below.refl _ w).alloc (Nat.le_refl _) _).alloc (by simp) _).alloc (by simp; omega) _, by simp⟩
end Go.Proofs.Ytdghanhpeekbhaa
