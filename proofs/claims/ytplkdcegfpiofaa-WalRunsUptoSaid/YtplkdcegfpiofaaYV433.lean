/-
  The walk of the log's Back: a range over a function whose body leaves in its first round.
-/
import Derived.RangeFuncLeaves
import Derived.RangeFuncRecord
import Derived.RangeFuncSeq
import Derived.WalkKit
import Derived.OwnWalkIn
import Derived.TacticsInMore
import Derived.LoopIn
import Derived.Shelf.Abstract
import Derived.WalkLawsBesides
import Derived.Test.YtplkdcegfpiofaaYV381
import Derived.Test.YtplkdcegfpiofaaZV33
import Derived.Test.YtplkdcegfpiofaaZG11
namespace Go.Proofs.Ytplkdcegfpiofaa
open Go.RowKit Go.Maps Go.Shelf
set_option linter.unusedVariables false
attribute [local go_sem] Oper.semAt_some

/-! ### A range over a function, at the wide fence: its record is one name -/
/-- The record of a loop under way. -/
structure IsRec (rec : LoopState → Option Code → Loop) (ps : Array Tmp) (T : Array Value) (assign body : Code) : Prop where
  st : ∀ s q, (rec s q).state = s
  pe : ∀ s q, (rec s q).pending = q
  ps : ∀ s q, (rec s q).params = ps
  tm : ∀ s q, (rec s q).tmps = T
  asg : ∀ s q, (rec s q).assign = assign
  bod : ∀ s q, (rec s q).body = body
  turn : ∀ s q s' q', { rec s q with state := s', pending := q' } = rec s' q'
  st1 : ∀ s q s', { rec s q with state := s' } = rec s' q
theorem wpIn_rangeFunc_wide {P : Program} {n : Nat} {go : Operand} {ps : Array Tmp} {assign body : Code} {Q : Exit → Act → World → Prop} {a : Act} {w1 : World} {gf : Nat} {lb : Array Value}
    (hg : a.eval go = .func (.func gf) #[] lb) (eg : ∀ args w, (callFunc gf args).run P w = .ok (.enter gf args) w)
    (h : ∀ rec, IsRec rec ps a.tmps assign body → CallsIn Fence.wide (n - 1) P gf (#[.func (.yield (w1.heap.size + 1)) #[] #[]] ++ lb) ((w1.alloc (.deferred (some []))).alloc (.loop (rec .ready none)))
      (rangePost Fence.wide n P (w1.heap.size + 1) Q { a with defers := [{ target := .collected w1.heap.size, args := #[] }] ++ a.defers })) :
    (Code.rangeFunc go ps assign body).wpIn Fence.wide n P Q a w1 := by
  refine wpIn_rangeFunc ?_
  intro fn hfn
  obtain ⟨rec, hrec⟩ : ∃ rec : LoopState → Option Code → Loop, rec = fun st pe => { state := st, pending := pe, fn, tmps := a.tmps, params := ps, assign, body, defers := w1.heap.size } := ⟨_, rfl⟩
  have hir : IsRec rec ps a.tmps assign body := by rw [hrec]; exact ⟨fun _ _ => rfl, fun _ _ => rfl, fun _ _ => rfl, fun _ _ => rfl, fun _ _ => rfl, fun _ _ => rfl, fun _ _ _ _ => rfl, fun _ _ _ => rfl⟩
  have hen : (Instr.enterLoop fn a.tmps ps assign body Fence.wide.round).run P w1 = .ok (w1.heap.size + 1, [{ target := .collected w1.heap.size, args := #[] }]) ((w1.alloc (.deferred (some []))).alloc (.loop (rec .ready none))) := by
    rw [hrec]; exact run_enterLoop_outer _ _ _ _ _
  have hre : (resolve a.eval (rangeCall go (w1.heap.size + 1)) 0).run P ((w1.alloc (.deferred (some []))).alloc (.loop (rec .ready none))) = .ok { target := .fn (.func gf) lb, args := #[.func (.yield (w1.heap.size + 1)) #[] #[]] } ((w1.alloc (.deferred (some []))).alloc (.loop (rec .ready none))) := by
    simp only [resolve, hg]
    simp [go_sem]
  have hin : (invoke (.fn (.func gf) lb) #[.func (.yield (w1.heap.size + 1)) #[] #[]]).run P ((w1.alloc (.deferred (some []))).alloc (.loop (rec .ready none))) = .ok (.enter gf (#[.func (.yield (w1.heap.size + 1)) #[] #[]] ++ lb)) ((w1.alloc (.deferred (some []))).alloc (.loop (rec .ready none))) := by
    simp [invoke, go_sem, eg]
  have hc := h rec hir
  clear hrec
  refine ⟨_, _, _, _, _, _, _, _, hen, hre, ?_, hin, ?_, ?_⟩
  · exact fun _ _ => trivial
  · intro h; simp [Fence.wide] at h
  · exact hc
theorem yield_wide {P : Program} {n l : Nat} {V : World} {rec : LoopState → Option Code → Loop} {ps : Array Tmp} {T : Array Value} {assign body : Code} {args : Array Value} {R : World → Prop} (hir : IsRec rec ps T assign body)
    (hl : V.heap[l]? = some (.loop (rec .ready none))) (hs : args.size = ps.size)
    (h : assign.wpIn (Fence.wide.inRound l) n P (Exit.then (fun a₁ V1 => V1.heap[l]? = some (.loop (rec .ready none)) ∧ body.wpIn (Fence.wide.inRound l) n P (fun e _ V3 => e = .ret ∧ V3.heap[l]? = some (.loop (rec .busy none)) ∧ R (V3.putObj l (.loop (rec .done (some .ret))))) a₁ (V1.putObj l (.loop (rec .busy none)))) (fun _ _ _ => False))
      { tmps := (ps.zip args).foldl (fun t (p, v) => t.setIfInBounds p v) T, defers := [] } V) :
    YieldAt Fence.wide n P l args V fun e V' => e = .returned (.bool false) ∧ R V' := by
  have hy := run_yield (P := P) (args := args) hl (by rw [hir.ps]; exact hs)
  refine ⟨_, _, _, _, hy, ?_⟩
  rw [hir.ps, hir.tm, hir.asg, hir.bod]
  refine roundIn_of_wpIn trivial (wpIn_mono h ?_)
  intro e a1 V1 he
  cases e with
  | normal =>
    obtain ⟨h1, h2⟩ := he
    refine ⟨_, run_beginRound h1 (hir.st _ _), ?_⟩
    rw [hir.st1]
    refine wpIn_mono h2 ?_
    rintro e2 a2 V3 ⟨rfl, h3, h4⟩
    refine ⟨_, _, run_endRound (some .ret) h3, rfl, ?_⟩
    rw [hir.turn]
    exact h4
  | ret => exact he
  | exit id => exact he
  | goto t => exact he
  | panic ch => exact he
  | outgrown => exact he

theorem rangePost_none {P : Program} {n l : Nat} {Q : Exit → Act → World → Prop} {a : Act} {V : World} {rec : LoopState → Option Code → Loop} {ps : Array Tmp} {T : Array Value} {assign body : Code} (hir : IsRec rec ps T assign body) (v : Value)
    (hl : V.heap[l]? = some (.loop (rec .ready none))) (h : Q .normal a (V.putObj l (.loop (rec .exhausted none)))) : rangePost Fence.wide n P l Q a (.returned v) V := by
  have e := run_endLoop (P := P) hl (by rw [hir.st]; simp)
  rw [hir.st1, hir.pe] at e
  exact ⟨none, _, e, h⟩
theorem rangePost_ret {P : Program} {n l : Nat} {Q : Exit → Act → World → Prop} {a : Act} {V : World} {rec : LoopState → Option Code → Loop} {ps : Array Tmp} {T : Array Value} {assign body : Code} (hir : IsRec rec ps T assign body) (v : Value)
    (hl : V.heap[l]? = some (.loop (rec .done (some .ret)))) (h : Code.ret.wpIn Fence.wide n P Q a (V.putObj l (.loop (rec .exhausted (some .ret))))) : rangePost Fence.wide n P l Q a (.returned v) V := by
  have e := run_endLoop (P := P) hl (by rw [hir.st]; simp)
  rw [hir.st1, hir.pe] at e
  exact ⟨some .ret, _, e, h⟩
/-- A record as one value. -/
def encT (x : RecV) : Value := .agg #[.int .i64 (x.lsn : Int), .int .i64 (x.kind : Int), x.v]
/-- Where among the records those begin that stand at x or behind it. -/
def LG.cutAt (m : LG) (x : Int) (r : Nat) : Prop := r ≤ m.begs.length ∧ (∀ a, a < r → m.atLeast x a = false) ∧ (∀ a, r ≤ a → a < m.begs.length → m.atLeast x a = true)
theorem record_told (w : World) (p g B : Nat) (sv bv : Value) (m : LG) (h : LogAt w p g B sv bv m) (i : Nat) (hi : i < m.begs.length) :
    Calls Try.prog 117 #[.pointer (some ⟨g, 0, none⟩), .int .i64 (i : Int)] w fun e w' => ∃ y : RecV, e = .returned (encT y) ∧ y.told = m.tell i ∧ OB w' w.heap.size y.v y.body ∧ Below w.heap.size w w' := by
  refine (record_any w p g B sv bv m h i hi).mono ?_
  rintro e w' ⟨v, rfl, h1, h2⟩
  obtain ⟨A, c, rfl, -, -, -, -⟩ := h1.rbn.open_
  exact ⟨⟨m.lsn (m.begs.getD i 0), m.st.getD (m.begs.getD i 0) 0, A, _, c, (textA m.st ((m.begs.getD i 0 : Nat) + 1 : Int) 1200).1⟩, rfl, rfl, h1, h2⟩

set_option maxRecDepth 100000 in
set_option maxHeartbeats 2000000 in
theorem backFirst (n l : Nat) (W : World) (p g B b1 b2 : Nat) (sv bv : Value) (m : LG) (rs : List RecT) (x : Int) (h : LogAt W p g B sv bv m) (hr : Recs m rs) (hn : m.begs.length ≤ 900000)
    (h1 : Blk W b1 55 #[.pointer (some ⟨g, 0, none⟩)]) (h2 : Blk W b2 2 #[.int .i64 x]) (R : RecV → World → World → Prop)
    (hY : ∀ y W1, Below W.heap.size W W1 → YieldAt Fence.wide (n - 1) Try.prog l #[encT y] W1 fun e W' => e = .returned (.bool false) ∧ R y W1 W') :
    CallsIn Fence.wide n Try.prog 120 #[.func (.yield l) #[] #[], .pointer (some ⟨b1, 0, none⟩), .pointer (some ⟨b2, 0, none⟩)] W fun e W' => (∃ v, e = .returned v) ∧
      ∃ r : Nat, m.cutAt x r ∧ ((r = 0 ∧ Below W.heap.size W W') ∨ (∃ y W1, 0 < r ∧ Below W.heap.size W W1 ∧ y.told = m.tell (r - 1) ∧ OB W1 W.heap.size y.v y.body ∧ R y W1 W')) := by
  have q1 : W.cell? ⟨b1, 0, none⟩ = some (.pointer (some ⟨g, 0, none⟩)) := h1.cell 0
  have q2 : W.cell? ⟨b2, 0, none⟩ = some (.int .i64 x) := h2.cell 0
  have hl1 := h1.lt
  have hl2 := h2.lt
  have HL := Lib.hid h
  have HM := Lib.hid (hr.mono x)
  have HN := Lib.hid hn
  have HYH := Lib.hid hY
  clear h hr hn h1 h2 hY
  refine callsIn_of_wp Try.func120 rfl trivial ?_ rfl
  simp only [Try.ntmps120, List.size_toArray, List.length_cons, List.length_nil, Nat.reduceAdd, Nat.reduceSub, Array.replicate_succ, Array.replicate_zero, List.push_toArray, List.append_toArray, List.nil_append, List.cons_append]
  gi_wp2
  refine ⟨trivial, fun h => (by cases h), (callsIn_wide.2 (ahead_any W p g B sv bv m x HL.out (by have := HN.out; omega) HM.out)).mono ?_⟩
  rintro e w2 ⟨r, rfl, h1, h2, h3, hb2⟩
  have HR : Hid (m.cutAt x r) := Lib.hid ⟨h1, h2, h3⟩
  have HB2 := Lib.hid hb2
  have hrn : r ≤ 900000 := by have := HN.out; omega
  have hwr : IntKind.i64.wrap ((r : Int) - 1) = (r : Int) - 1 := by rw [IntKind.wrap_i64]; omega
  have p1 : w2.cell? ⟨b1, 0, none⟩ = some (.pointer (some ⟨g, 0, none⟩)) := (HB2.out.cell (p := ⟨b1, 0, none⟩) hl1).trans q1
  clear h1 h2 h3 hb2
  gi_wp2
  gi_loopw [4] (fun i wr => i = .int .i64 ((r : Int) - 1) ∧ wr = w2) (fun _ _ => 0)
  case atStart => exact ⟨by first | rfl | simp, rfl⟩
  case round =>
    obtain ⟨rfl, rfl⟩ := hrel
    by_cases hr0 : r = 0
    · subst hr0
      gi_wp2
      go_end0
      exact ⟨⟨_, rfl⟩, 0, HR.out, .inl ⟨rfl, HB2.out⟩⟩
    · obtain ⟨k, rfl⟩ : ∃ k, r = k + 1 := ⟨r - 1, by omega⟩
      have hk : ((k + 1 : Nat) : Int) - 1 = (k : Int) := by omega
      rw [hk]
      have hkb : k < m.begs.length := by have := HR.out.1; omega
      have HLW : Hid (LogAt wr p g B sv bv m) := Lib.hid (HL.out.below HB2.out)
      gi_wp2
      refine ⟨trivial, fun h => (by cases h), (callsIn_wide.2 (record_told wr p g B sv bv m HLW.out k hkb)).mono ?_⟩
      rintro e w3 ⟨y, rfl, ht, ho, hb3⟩
      have HB3 := Lib.hid (HB2.out.trans (hb3.mono HB2.out.size))
      obtain ⟨fn, tmps, assign, body, hy, hR⟩ := HYH.out y w3 HB3.out
      unfold encT at hy ⊢
      gi_wp2
      refine ⟨fun h => (by cases h), hR.mono ?_⟩
      rintro e w4 ⟨rfl, hRR⟩
      gi_wp2
      refine bodyPost_ret (results_none rfl _ _ _) rfl ?_
      refine ⟨⟨_, rfl⟩, k + 1, HR.out, .inr ⟨y, w3, Nat.succ_pos _, HB3.out, ?_, ho.base HB2.out.size, hRR⟩⟩
      rw [ht]; rfl

theorem backwards_any (w : World) (g : Nat) (x : Int) :
    Calls Try.prog 83 #[.pointer (some ⟨g, 0, none⟩), .int .i64 x] w fun e w' => e = .returned (.func (.func 120) #[] #[.pointer (some ⟨w.heap.size, 0, none⟩), .pointer (some ⟨w.heap.size + 1, 0, none⟩)]) ∧
      w' = (w.alloc (.cells #[.pointer (some ⟨g, 0, none⟩)] 55)).alloc (.cells #[.int .i64 x] 2) := by
  have hmf : ∀ (fn : Fn) (first cap : Array Value) (w : World), (Instr.makeFunc fn first cap).run Try.prog w = .ok (.func fn first cap) w := fun _ _ _ _ => rfl
  go_enter Try.func83, Try.ntmps83
  go_wp2_with fail
  go_ret
  exact ⟨rfl, rfl⟩

theorem Mod.putObj {S : Nat → Prop} {w w' : World} (h : Mod S w w') {l : Nat} (hl : l < w.heap.size → S l) (o : Obj) : Mod S w (w'.putObj l o) := by
  refine ⟨h.os, h.tape, h.output, Nat.le_trans h.size (by simp [World.putObj]), fun k hk hn => ?_⟩
  by_cases e : k = l
  · subst e; exact absurd (hl hk) hn
  · exact (World.putObj_heap_other (by first | exact e | exact fun h => e h.symm)).trans (h.block k hk hn)

/-- Back's end: the loop's mark is taken up, and the two results lie in their cells. -/
theorem back_end {V : World} {D c0 c1 : Nat} {a b c t : Value} {R : Ending → World → Prop} {T : Array Value} (hd : V.heap[D]? = some (.deferred (some []))) (h0 : Blk V c0 64 #[a, b, c]) (h1 : Blk V c1 4 #[t]) (n0 : c0 ≠ D) (n1 : c1 ≠ D)
    (t0 : T.getD 4 undef = .pointer (some ⟨c0, 0, none⟩)) (t1 : T.getD 5 undef = .pointer (some ⟨c1, 0, none⟩)) (hR : R (.returned (.tuple #[.agg #[a, b, c], t])) (V.putObj D (.deferred none))) :
    LeavesInM Fence.wide 3 Try.prog Try.f29 T R [{ target := Target.collected D, args := #[] }] .returning V := by
  have q0 : Blk (V.putObj D (.deferred none)) c0 64 #[a, b, c] := (World.putObj_heap_other n0).trans h0
  have q1 : Blk (V.putObj D (.deferred none)) c1 4 #[t] := (World.putObj_heap_other n1).trans h1
  refine ⟨by simp, .inl ⟨_, _, rfl, run_takeDeferred hd, ?_⟩⟩
  refine ⟨_, ?_, hR⟩
  have z0 : (V.putObj D (.deferred none)).cell? ⟨c0, 0, none⟩ = some a := q0.cell 0
  have z1 : (V.putObj D (.deferred none)).cell? ⟨c0, 1, none⟩ = some b := q0.cell 1
  have z2 : (V.putObj D (.deferred none)).cell? ⟨c0, 2, none⟩ = some c := q0.cell 2
  have z3 : (V.putObj D (.deferred none)).cell? ⟨c1, 0, none⟩ = some t := q1.cell 0
  have t0' : T[4]?.getD undef = .pointer (some ⟨c0, 0, none⟩) := by simpa using t0
  have t1' : T[5]?.getD undef = .pointer (some ⟨c1, 0, none⟩) := by simpa using t1
  simp only [results, Try.results29]
  go_simp
set_option maxRecDepth 100000 in
set_option maxHeartbeats 2000000 in
theorem Back_any (w : World) (p g B : Nat) (sv bv : Value) (m : LG) (rs : List RecT) (x : Int) (h : LogAt w p g B sv bv m) (hr : Recs m rs) (hn : m.begs.length ≤ 900000) :
    Calls Try.prog 29 #[.pointer (some ⟨g, 0, none⟩), .int .i64 x] w fun e w' => (∃ r : Nat, m.cutAt x r ∧
      ((r = 0 ∧ e = .returned (.tuple #[.agg #[.int .i64 0, .int .i64 0, .slice none 0 0], .bool false])) ∨ (∃ y : RecV, 0 < r ∧ y.told = m.tell (r - 1) ∧ OB w' w.heap.size y.v y.body ∧ e = .returned (.tuple #[encT y, .bool true])))) ∧ Below w.heap.size w w' := by
  refine (callsIn_wide (n := 3)).1 ?_
  refine callsIn_of_wp_marks Try.func29 rfl trivial ?_ rfl
  simp only [Try.ntmps29, List.size_toArray, List.length_cons, List.length_nil, Nat.reduceAdd, Nat.reduceSub, Array.replicate_succ, Array.replicate_zero, List.push_toArray, List.append_toArray, List.nil_append, List.cons_append]
  gi_wp2
  refine ⟨trivial, (callsIn_wide.2 (backwards_any _ g x)).mono ?_⟩
  rintro e w1 ⟨rfl, rfl⟩
  obtain ⟨w1, hw1⟩ : ∃ w1, w1 = ((((w.alloc (.cells #[.int .i64 0, .int .i64 0, .slice none 0 0] 64)).alloc (.cells #[.bool false] 4)).alloc (.cells #[.pointer (some ⟨g, 0, none⟩)] 55)).alloc (.cells #[.int .i64 x] 2)) := ⟨_, rfl⟩
  have hz1 : w1.heap.size = w.heap.size + 4 := by rw [hw1]; simp
  have hb1 : Below w.heap.size w w1 := by rw [hw1]; exact ((((Below.refl _ _).alloc (Nat.le_refl _) _).alloc (by simp) _).alloc (by simp; omega) _).alloc (by simp; omega) _
  have k0 : Blk w1 w.heap.size 64 #[.int .i64 0, .int .i64 0, .slice none 0 0] := by rw [hw1]; exact (((Blk.new w _ _).alloc _).alloc _).alloc _
  have k1 : Blk w1 (w.heap.size + 1) 4 #[.bool false] := by
    rw [hw1]
    have := ((Blk.new (w.alloc (.cells #[.int .i64 0, .int .i64 0, .slice none 0 0] 64)) 4 #[.bool false]).alloc (.cells #[.pointer (some ⟨g, 0, none⟩)] 55)).alloc (.cells #[.int .i64 x] 2)
    rwa [size_alloc_] at this
  have k2 : Blk w1 (w.heap.size + 2) 55 #[.pointer (some ⟨g, 0, none⟩)] := by
    rw [hw1]
    have := (Blk.new ((w.alloc (.cells #[.int .i64 0, .int .i64 0, .slice none 0 0] 64)).alloc (.cells #[.bool false] 4)) 55 #[.pointer (some ⟨g, 0, none⟩)]).alloc (.cells #[.int .i64 x] 2)
    rwa [size_alloc_, size_alloc_] at this
  have k3 : Blk w1 (w.heap.size + 3) 2 #[.int .i64 x] := by
    rw [hw1]
    have := Blk.new (((w.alloc (.cells #[.int .i64 0, .int .i64 0, .slice none 0 0] 64)).alloc (.cells #[.bool false] 4)).alloc (.cells #[.pointer (some ⟨g, 0, none⟩)] 55)) 2 #[.int .i64 x]
    rwa [size_alloc_, size_alloc_, size_alloc_] at this
  rw [← hw1]
  simp only [size_alloc_]
  clear hw1
  gi_wp2
  have HL1 : Hid (LogAt w1 p g B sv bv m) := Lib.hid (h.below hb1)
  have HRS := Lib.hid hr
  have HN := Lib.hid hn
  have hb2 : Below w1.heap.size w1 ((w1.alloc (.deferred (some [])))) := (Below.refl _ _).alloc (Nat.le_refl _) _
  clear h hr hn
  refine wpIn_rangeFunc_wide (gf := 120) (lb := #[.pointer (some ⟨w.heap.size + 1 + 1, 0, none⟩), .pointer (some ⟨w.heap.size + 1 + 1 + 1, 0, none⟩)]) rfl (enters_of Try.func120 (by kernel_rfl) rfl) ?_
  intro rec hir
  obtain ⟨W, hW⟩ : ∃ W, W = (w1.alloc (.deferred (some []))).alloc (.loop (rec .ready none)) := ⟨_, rfl⟩
  have hbW : Below w1.heap.size w1 W := by rw [hW]; exact ((Below.refl _ _).alloc (Nat.le_refl _) _).alloc (by simp) _
  have hzW : W.heap.size = w1.heap.size + 2 := by rw [hW]; simp
  have hlW : W.heap[w1.heap.size + 1]? = some (.loop (rec .ready none)) := by
    rw [hW]; have := World.alloc_heap_new (w1.alloc (.deferred (some []))) (.loop (rec .ready none)); rwa [World.size_alloc] at this
  have hdW : W.heap[w1.heap.size]? = some (.deferred (some [])) := by
    rw [hW]; exact (Below.heap_alloc _ _ _ (by simp)).trans (World.alloc_heap_new w1 _)
  rw [← hW]
  have HLW := Lib.hid hlW
  have HDW := Lib.hid hdW
  clear hW
  have j0 := k0.below hbW (by omega)
  have j1 := k1.below hbW (by omega)
  have j2 := k2.below hbW (by omega)
  have j3 := k3.below hbW (by omega)
  have hR : ∀ (y : RecV) (V : World), Below W.heap.size W V → YieldAt Fence.wide (3 - 1 - 1) Try.prog (w1.heap.size + 1) #[encT y] V fun e V' => e = .returned (.bool false) ∧
      (V'.heap[w1.heap.size + 1]? = some (.loop (rec .done (some .ret))) ∧ V'.heap[w1.heap.size]? = some (.deferred (some [])) ∧ Blk V' w.heap.size 64 #[.int .i64 (y.lsn : Int), .int .i64 (y.kind : Int), y.v] ∧ Blk V' (w.heap.size + 1) 4 #[.bool true] ∧ Mod (fun k => k = w.heap.size ∨ k = w.heap.size + 1 ∨ k = w1.heap.size + 1) V V') := by
    intro y V hbV
    have hzV := hbV.size
    have i0 := j0.below hbV (by omega)
    have i1 := j1.below hbV (by omega)
    have hlV := (hbV.block (w1.heap.size + 1) (by omega)).trans hlW
    have hdV := (hbV.block w1.heap.size (by omega)).trans hdW
    obtain ⟨ly, hly⟩ : ∃ ly : Int, ly = (y.lsn : Int) := ⟨_, rfl⟩
    obtain ⟨ky, hky⟩ : ∃ ky : Int, ky = (y.kind : Int) := ⟨_, rfl⟩
    unfold encT RecV.v
    rw [← hly, ← hky]
    clear hly hky
    obtain ⟨lb, hlb⟩ : ∃ lb, lb = w1.heap.size + 1 := ⟨_, rfl⟩
    have hlb1 : w.heap.size + 4 + 1 = lb := by omega
    have hlb2 : w.heap.size + 4 = w1.heap.size := by omega
    rw [← hlb] at hlV ⊢
    have hlt : lb < V.heap.size := by omega
    obtain ⟨V1, hV1⟩ : ∃ V1, V1 = V.alloc (.cells #[.int .i64 ly, .int .i64 ky, .slice y.A y.n y.c] 64) := ⟨_, rfl⟩
    have l1 : V1.heap[lb]? = some (.loop (rec .ready none)) := by rw [hV1]; exact (Below.heap_alloc _ _ _ hlt).trans hlV
    have d1 : V1.heap[w1.heap.size]? = some (.deferred (some [])) := by rw [hV1]; exact (Below.heap_alloc _ _ _ (by omega)).trans hdV
    have a0 : Blk V1 w.heap.size 64 #[.int .i64 0, .int .i64 0, .slice none 0 0] := by rw [hV1]; exact i0.alloc _
    have a1 : Blk V1 (w.heap.size + 1) 4 #[.bool false] := by rw [hV1]; exact i1.alloc _
    have a2 : Blk V1 V.heap.size 64 #[.int .i64 ly, .int .i64 ky, .slice y.A y.n y.c] := by rw [hV1]; exact Blk.new _ _ _
    have m1 : Mod (fun k => k = w.heap.size ∨ k = w.heap.size + 1 ∨ k = lb) V V1 := by rw [hV1]; exact (Mod.refl _ _).alloc _
    have hz1' : V1.heap.size = V.heap.size + 1 := by rw [hV1]; simp
    obtain ⟨V2, hV2⟩ : ∃ V2, V2 = V1.putObj lb (.loop (rec .busy none)) := ⟨_, rfl⟩
    have l2 : V2.heap[lb]? = some (.loop (rec .busy none)) := by rw [hV2]; exact World.putObj_heap_same (by omega)
    have d2 : V2.heap[w1.heap.size]? = some (.deferred (some [])) := by rw [hV2]; exact (World.putObj_heap_other (by omega)).trans d1
    have b0 : Blk V2 w.heap.size 64 #[.int .i64 0, .int .i64 0, .slice none 0 0] := by rw [hV2]; exact (World.putObj_heap_other (by omega)).trans a0
    have b1 : Blk V2 (w.heap.size + 1) 4 #[.bool false] := by rw [hV2]; exact (World.putObj_heap_other (by omega)).trans a1
    have b2 : Blk V2 V.heap.size 64 #[.int .i64 ly, .int .i64 ky, .slice y.A y.n y.c] := by rw [hV2]; exact (World.putObj_heap_other (by omega)).trans a2
    have m2 : Mod (fun k => k = w.heap.size ∨ k = w.heap.size + 1 ∨ k = lb) V V2 := by rw [hV2]; exact m1.putObj (fun _ => .inr (.inr rfl)) _
    have hz2 : V2.heap.size = V.heap.size + 1 := by rw [hV2]; simp [World.putObj, hz1']
    have M2 := Lib.hid m2
    have L2 := Lib.hid l2
    have D2 := Lib.hid d2
    have B0 := Lib.hid b0
    have B1 := Lib.hid b1
    have L1 := Lib.hid l1
    have c20 : V2.cell? ⟨V.heap.size, 0, none⟩ = some (.int .i64 ly) := b2.cell 0
    have c21 : V2.cell? ⟨V.heap.size, 1, none⟩ = some (.int .i64 ky) := b2.cell 1
    have c22 : V2.cell? ⟨V.heap.size, 2, none⟩ = some (.slice y.A y.n y.c) := b2.cell 2
    have c00 : V2.cell? ⟨w.heap.size, 0, none⟩ = some (.int .i64 0) := b0.cell 0
    have c01 : V2.cell? ⟨w.heap.size, 1, none⟩ = some (.int .i64 0) := b0.cell 1
    have c02 : V2.cell? ⟨w.heap.size, 2, none⟩ = some (.slice none 0 0) := b0.cell 2
    have f00 := b0.frozen 0
    have f01 := b0.frozen 1
    have f02 := b0.frozen 2
    have c10 : V2.cell? ⟨w.heap.size + 1, 0, none⟩ = some (.bool false) := b1.cell 0
    have f10 := b1.frozen 0
    have hn0 : ¬ V.heap.size = w.heap.size := by omega
    have hn1 : ¬ V.heap.size = w.heap.size + 1 := by omega
    have HNB : Hid (w.heap.size + 1 < lb ∧ w.heap.size + 1 < w1.heap.size ∧ w1.heap.size ≠ lb) := Lib.hid (by omega)
    have HV1 := Lib.hid hV1
    have HV2 := Lib.hid hV2
    have HLV := Lib.hid hlV
    clear hV1 hV2 hlb hlb1 hlb2 hz1 hz2 hz1' hzW hzV hlt
    clear m2 l2 d2 b0 b1 b2 m1 l1 d1 a0 a1 a2 i0 i1 hlV hdV j0 j1 j2 j3 k0 k1 k2 k3 hlW hdW
    refine yield_wide hir HLV.out rfl ?_
    gi_wp2
    rw [← HV1.out]
    refine ⟨L1.out, ?_⟩
    rw [← HV2.out]
    gi_wp2
    obtain ⟨V3, hV3⟩ : ∃ V3, V3 = (((V2.setCell ⟨w.heap.size, 0, none⟩ (.int .i64 ly)).setCell ⟨w.heap.size, 1, none⟩ (.int .i64 ky)).setCell ⟨w.heap.size, 2, none⟩ (.slice y.A y.n y.c)).setCell ⟨w.heap.size + 1, 0, none⟩ (.bool true) := ⟨_, rfl⟩
    have far : ∀ k, k ≠ w.heap.size → k ≠ w.heap.size + 1 → V3.heap[k]? = V2.heap[k]? := fun k e1 e2 => by
      rw [hV3, Below.heap_setCell _ _ _ _ (by exact e2), Below.heap_setCell _ _ _ _ (by exact e1), Below.heap_setCell _ _ _ _ (by exact e1), Below.heap_setCell _ _ _ _ (by exact e1)]
    have e0 : Blk V3 w.heap.size 64 #[.int .i64 ly, .int .i64 ky, .slice y.A y.n y.c] := by
      rw [hV3]; exact (((B0.out.set_ 0 _).set_ 1 _).set_ 2 _).far (by simp) _
    have e1 : Blk V3 (w.heap.size + 1) 4 #[.bool true] := by
      rw [hV3]; exact (((B1.out.far (by simp) _).far (by simp) _).far (by simp) _).set_ 0 _
    have m3 : Mod (fun k => k = w.heap.size ∨ k = w.heap.size + 1 ∨ k = lb) V V3 := by
      rw [hV3]; exact (((M2.out.setCell (p := ⟨w.heap.size, 0, none⟩) (fun _ => .inl rfl) _).setCell (p := ⟨w.heap.size, 1, none⟩) (fun _ => .inl rfl) _).setCell (p := ⟨w.heap.size, 2, none⟩) (fun _ => .inl rfl) _).setCell (p := ⟨w.heap.size + 1, 0, none⟩) (fun _ => .inr (.inl rfl)) _
    rw [← hV3]
    have hn := HNB.out
    have l3 : V3.heap[lb]? = some (.loop (rec .busy none)) := (far lb (by omega) (by omega)).trans L2.out
    have d3 : V3.heap[w1.heap.size]? = some (.deferred (some [])) := (far _ (by omega) (by omega)).trans D2.out
    refine ⟨l3, World.putObj_heap_same (Array.getElem?_eq_some_iff.1 l3).1, (World.putObj_heap_other hn.2.2).trans d3, (World.putObj_heap_other (by omega)).trans e0, (World.putObj_heap_other (by omega)).trans e1, m3.putObj (fun _ => .inr (.inr rfl)) _⟩
  have HB1 := Lib.hid hb1
  have HBW := Lib.hid hbW
  refine (backFirst (3 - 1) (w1.heap.size + 1) W p g B (w.heap.size + 1 + 1) (w.heap.size + 1 + 1 + 1) sv bv m rs x (HL1.out.below hbW) HRS.out HN.out j2 j3 _ hR).mono ?_
  rintro e V ⟨⟨v, rfl⟩, r, hcut, hcase⟩
  have HCUT := Lib.hid hcut
  rcases hcase with ⟨rfl, hbV⟩ | ⟨y, U, hr0, hbU, ht, ho, hl, hd, q0, q1, hm⟩
  · have hlV := (hbV.block (w1.heap.size + 1) (by omega)).trans hlW
    have hdV := (hbV.block w1.heap.size (by omega)).trans hdW
    have i0 := j0.below hbV (by omega)
    have i1 := j1.below hbV (by omega)
    refine rangePost_none hir v hlV ?_
    obtain ⟨V2, hV2⟩ : ∃ V2, V2 = V.putObj (w1.heap.size + 1) (.loop (rec .exhausted none)) := ⟨_, rfl⟩
    have hd2 : V2.heap[w1.heap.size]? = some (.deferred (some [])) := by rw [hV2]; exact (World.putObj_heap_other (by omega)).trans hdV
    have b0 : Blk V2 w.heap.size 64 #[.int .i64 0, .int .i64 0, .slice none 0 0] := by rw [hV2]; exact (World.putObj_heap_other (by omega)).trans i0
    have b1 : Blk V2 (w.heap.size + 1) 4 #[.bool false] := by rw [hV2]; exact (World.putObj_heap_other (by omega)).trans i1
    have hb2' : Below w.heap.size w V2 := by
      rw [hV2]
      exact ((Mod.of_below (hb1.trans ((hbW.trans (hbV.mono hbW.size)).mono hb1.size)) (fun k => k = w1.heap.size + 1)).putObj (fun h => by omega) _).below (Nat.le_refl _) (fun k e => by have e : k = w1.heap.size + 1 := e; omega)
    rw [← hV2]
    clear hV2 i0 i1 hdV hlV hbV hcut
    have D2 := Lib.hid hd2
    have B0 := Lib.hid b0
    have B1 := Lib.hid b1
    have HB2 := Lib.hid hb2'
    have HW1 : Hid (w.heap.size + 1 < w1.heap.size) := Lib.hid (by omega)
    have c00 : V2.cell? ⟨w.heap.size, 0, none⟩ = some (.int .i64 0) := b0.cell 0
    have c01 : V2.cell? ⟨w.heap.size, 1, none⟩ = some (.int .i64 0) := b0.cell 1
    have c02 : V2.cell? ⟨w.heap.size, 2, none⟩ = some (.slice none 0 0) := b0.cell 2
    have f00 := b0.frozen 0
    have f01 := b0.frozen 1
    have f02 := b0.frozen 2
    have c10 : V2.cell? ⟨w.heap.size + 1, 0, none⟩ = some (.bool false) := b1.cell 0
    have f10 := b1.frozen 0
    clear hd2 b0 b1 hb2' hz1 hzW hb1 hbW j0 j1 j2 j3 k0 k1 k2 k3 hlW hdW hR
    gi_wp2
    obtain ⟨V3, hV3⟩ : ∃ V3, V3 = (((V2.setCell ⟨w.heap.size, 0, none⟩ (.int .i64 0)).setCell ⟨w.heap.size, 1, none⟩ (.int .i64 0)).setCell ⟨w.heap.size, 2, none⟩ (.slice none 0 0)).setCell ⟨w.heap.size + 1, 0, none⟩ (.bool false) := ⟨_, rfl⟩
    have hn := HW1.out
    have d3 : V3.heap[w1.heap.size]? = some (.deferred (some [])) := by
      have e1 : w1.heap.size ≠ w.heap.size := by omega
      have e2 : w1.heap.size ≠ w.heap.size + 1 := by omega
      rw [hV3, Below.heap_setCell _ _ _ _ (by exact e2), Below.heap_setCell _ _ _ _ (by exact e1), Below.heap_setCell _ _ _ _ (by exact e1), Below.heap_setCell _ _ _ _ (by exact e1)]
      exact D2.out
    have e0 : Blk V3 w.heap.size 64 #[.int .i64 0, .int .i64 0, .slice none 0 0] := by
      rw [hV3]; exact (((B0.out.set_ 0 _).set_ 1 _).set_ 2 _).far (by simp) _
    have e1 : Blk V3 (w.heap.size + 1) 4 #[.bool false] := by
      rw [hV3]; exact (((B1.out.far (by simp) _).far (by simp) _).far (by simp) _).set_ 0 _
    have hb3 : Below w.heap.size w V3 := by
      rw [hV3]; exact (((HB2.out.setCell (p := ⟨w.heap.size, 0, none⟩) (Nat.le_refl _) _).setCell (p := ⟨w.heap.size, 1, none⟩) (Nat.le_refl _) _).setCell (p := ⟨w.heap.size, 2, none⟩) (Nat.le_refl _) _).setCell (p := ⟨w.heap.size + 1, 0, none⟩) (Nat.le_succ _) _
    rw [← hV3]
    refine back_end d3 e0 e1 (by omega) (by omega) rfl rfl ⟨⟨0, HCUT.out, .inl ⟨rfl, rfl⟩⟩, ?_⟩
    exact ((Mod.of_below hb3 (fun k => k = w1.heap.size)).putObj (fun _ => rfl) _).below (Nat.le_refl _) (fun k e => by have e : k = w1.heap.size := e; omega)
  · have D0 := hd
    refine rangePost_ret hir v hl ?_
    obtain ⟨V2, hV2⟩ : ∃ V2, V2 = V.putObj (w1.heap.size + 1) (.loop (rec .exhausted (some .ret))) := ⟨_, rfl⟩
    have hd2 : V2.heap[w1.heap.size]? = some (.deferred (some [])) := by rw [hV2]; exact (World.putObj_heap_other (by omega)).trans hd
    have b0 : Blk V2 w.heap.size 64 #[.int .i64 (y.lsn : Int), .int .i64 (y.kind : Int), y.v] := by rw [hV2]; exact (World.putObj_heap_other (by omega)).trans q0
    have b1 : Blk V2 (w.heap.size + 1) 4 #[.bool true] := by rw [hV2]; exact (World.putObj_heap_other (by omega)).trans q1
    have hm2 : Mod (fun k => k = w.heap.size ∨ k = w.heap.size + 1 ∨ k = w1.heap.size + 1) U V2 := by rw [hV2]; exact hm.putObj (fun _ => .inr (.inr rfl)) _
    have hbU0 : Below w.heap.size w U := hb1.trans ((hbW.trans (hbU.mono hbW.size)).mono hb1.size)
    have hb2' : Below w.heap.size w V2 := below_by hbU0 hm2 (fun k hk => by omega)
    have ho2 : OB V2 w.heap.size y.v y.body := (ho.mod hm2 (fun b hb e => by have := (ho.lt b hb).1; omega)).base (by omega)
    have HBN : Hid (∀ b, y.v.ownBlock = some b → b ≠ w1.heap.size) := Lib.hid (fun b hb e => by have := (ho.lt b hb).1; omega)
    rw [← hV2]
    have D2 := Lib.hid hd2
    have B0 := Lib.hid b0
    have B1 := Lib.hid b1
    have HB2 := Lib.hid hb2'
    have HO2 := Lib.hid ho2
    have HT := Lib.hid ht
    have HW1 : Hid (w.heap.size + 1 < w1.heap.size) := Lib.hid (by omega)
    clear hd2 b0 b1 hb2' hz1 hzW hb1 hbW j0 j1 j2 j3 k0 k1 k2 k3 hlW hdW hR hm2 hbU0 ho2 ht ho hm q0 q1 hd hl hV2 hcut hbU D0
    gi_wp2
    refine back_end D2.out B0.out B1.out (by have := HW1.out; omega) (by have := HW1.out; omega) rfl rfl ⟨⟨r, HCUT.out, .inr ⟨hr0, y, HT.out, ?_, rfl⟩⟩, ?_⟩
    · exact HO2.out.mod ((Mod.refl (fun k => k = w1.heap.size) V2).putObj (fun _ => rfl) _) (fun b hb e => HBN.out b hb e)
    · exact ((Mod.of_below HB2.out (fun k => k = w1.heap.size)).putObj (fun _ => rfl) _).below (Nat.le_refl _) (fun k e => by have e : k = w1.heap.size := e; have := HW1.out; omega)
end Go.Proofs.Ytplkdcegfpiofaa

/-
  The walk of skeinref09.From; what WalBack asks of a log, in plain words.
-/
namespace Go.Proofs.Ytplkdcegfpiofaa
open Go.RowKit Go.Maps
set_option linter.unusedVariables false

theorem take_filter {α : Type} (p : α → Bool) (xs : List α) (k : Nat) (hk : k < xs.length) : (xs.take (k + 1)).filter p = (xs.take k).filter p ++ (if p xs[k] then [xs[k]] else []) := by
  rw [List.take_add_one, List.getElem?_eq_getElem hk, List.filter_append]
  congr 1
  simp [List.filter_cons]
set_option maxRecDepth 100000 in
set_option maxHeartbeats 1000000 in
theorem From_any (w : World) (v : Value) (xs : List RecV) (x : Int) (hv : RK encRec 3 w w.heap.size v xs) (hlen : xs.length ≤ 1000000) :
    Calls Try.prog 31 #[v, .int .i64 x] w fun e w' => ∃ A n c, e = .returned (.slice A n c) ∧ OK encRec 3 64 w' w.heap.size (.slice A n c) (xs.filter fun y => decide (x ≤ (y.lsn : Int))) ∧ Below w.heap.size w w' := by
  obtain ⟨A, c, rfl, h1, h2, h3, HX⟩ := hv.open_
  obtain ⟨N, hN⟩ : ∃ N, N = xs.length := ⟨_, rfl⟩
  rw [← hN] at h1 hlen ⊢
  have HN := Lib.hid hN
  have H0 : Hid (OK encRec 3 64 (w.alloc (.cells #[] 64)) w.heap.size (.slice (some ⟨w.heap.size, 0, none⟩) 0 0) []) := Lib.hid ⟨by simp, World.ownsRow_made w #[] 0 (Nat.le_refl _) (by simp) (by simp)⟩
  obtain ⟨p, hp⟩ : ∃ p : RecV → Bool, p = fun y => decide (x ≤ (y.lsn : Int)) := ⟨_, rfl⟩
  rw [← hp]
  have HP := Lib.hid hp
  clear hv hN hp h3
  go_enter Try.func31, Try.ntmps31
  go_wp2_with fail
  go_loopw [5, 6] (fun o i wr => ∃ (k : Nat) (A' : Option Addr) (n' c' : Nat) (ys : List RecV), i = .int .i64 (k : Int) ∧ o = .slice A' n' c' ∧ k ≤ N ∧ n' ≤ k ∧ Hid (n' = ys.length) ∧ Hid (ys = (xs.take k).filter p) ∧ Hid (OK encRec 3 64 wr w.heap.size (.slice A' n' c') ys) ∧ Hid (Below w.heap.size w wr)) (fun o i wr => N - (intOf i).toNat)
  case atStart => exact ⟨0, _, 0, 0, [], rfl, rfl, Nat.zero_le _, Nat.le_refl _, Lib.hid rfl, Lib.hid (by simp), H0, Lib.hid ((Below.refl _ _).alloc (Nat.le_refl _) _)⟩
  case round =>
    obtain ⟨k, A', n', c', ys, rfl, rfl, hk, hnk, HLN, HYS, HO, HB⟩ := hrel
    have hz := HB.out.size
    by_cases hlt : k < N
    · have hkx : k < xs.length := by rw [← HN.out]; exact hlt
      obtain ⟨b, off, rfl, hb, hcx⟩ := HX.out k hkx
      obtain ⟨x0, x1, x2⟩ := rec_cells hcx
      have htf := take_filter p xs k hkx
      obtain ⟨y, hy⟩ : ∃ y, y = xs[k] := ⟨_, rfl⟩
      rw [← hy] at x0 x1 x2 htf
      obtain ⟨yl, yk, yA, yn, yc, yb⟩ := y
      have HTF := Lib.hid htf
      have z0 : wr.cell? ⟨b, off + k * 3, none⟩ = some (.int .i64 (yl : Int)) := (HB.out.cell (p := ⟨b, off + k * 3, none⟩) hb).trans x0
      have z1 : wr.cell? ⟨b, off + k * 3 + 1, none⟩ = some (.int .i64 (yk : Int)) := (HB.out.cell (p := ⟨b, off + k * 3 + 1, none⟩) hb).trans x1
      have z2 : wr.cell? ⟨b, off + k * 3 + 2, none⟩ = some (.slice yA yn yc) := (HB.out.cell (p := ⟨b, off + k * 3 + 2, none⟩) hb).trans x2
      clear x0 x1 x2 hcx hy htf hkx
      by_cases hx : x ≤ (yl : Int)
      · have HPY : Hid (p ⟨yl, yk, yA, yn, yc, yb⟩ = true) := Lib.hid (by rw [HP.out]; simpa using hx)
        go_wp2_with (first
          | (at_builtin; refine wpList_appE etR encRec_len encRec_one (y := ⟨yl, yk, yA, yn, yc, yb⟩) rfl (.tmp 21) (.tmp 26) rfl rfl (HO.out.alloc _) wr.heap.size rfl (by intro j u hu; rw [(Blk.new wr _ _).cell j]; simpa [encRec, RecV.v] using hu) (by rw [← HLN.out]; omega) (by simp; omega) ?_; intro v3 w4 k1 k2 k3; obtain ⟨A3, c3, hv3, -, -, -, -⟩ := (k1.rk encRec_len (Nat.le_refl _)).open_; have hl3 : (ys ++ [(⟨yl, yk, yA, yn, yc, yb⟩ : RecV)]).length = n' + 1 := (by rw [List.length_append, List.length_singleton, HLN.out]); rw [hl3] at hv3; subst hv3; have K1 := Lib.hid k1; have K2 := Lib.hid k2; have HL3 := Lib.hid hl3; clear k1 k2 k3 hl3))
        go_roundw
        case rel => exact ⟨k + 1, A3, n' + 1, c3, _, by go_num, rfl, by omega, by omega, Lib.hid HL3.out.symm, Lib.hid (by rw [HTF.out, if_pos HPY.out, HYS.out]), K1, Lib.hid ((HB.out.alloc hz _).grown K2.out (by simp; omega) (fun b hb => (HO.out.lt b hb).1))⟩
        case measure => simp [intOf]; omega
      · have HPY : Hid (¬ p ⟨yl, yk, yA, yn, yc, yb⟩ = true) := Lib.hid (by rw [HP.out]; simpa using hx)
        go_wp2_with fail
        go_roundw
        case rel => exact ⟨k + 1, A', n', c', ys, by go_num, rfl, by omega, by omega, HLN, Lib.hid (by rw [HTF.out, if_neg HPY.out, List.append_nil, HYS.out]), HO, HB⟩
        case measure => simp [intOf]; omega
    · have HYE : Hid (ys = xs.filter p) := Lib.hid (by rw [HYS.out, List.take_of_length_le (by rw [← HN.out]; omega)])
      go_wp2_with fail
      go_ret
      exact ⟨_, _, _, rfl, by rw [← HYE.out]; exact HO.out, HB.out⟩

/-! ### Plain words -/
theorem Recs.beg {m : LG} {rs : List RecT} (h : Recs m rs) (i : Nat) (hi : i < rs.length) : m.begs.getD i 0 = (strm (rs.take i)).length := by
  have := begsAt_get rs 0 i hi
  rw [Nat.zero_add] at this
  rw [h.begs, List.getD, this]
  rfl
theorem strm_next (rs : List RecT) (i : Nat) (hi : i < rs.length) : (strm (rs.take i)).length + 2 ≤ (strm (rs.take (i + 1))).length := by
  rw [List.take_add_one, List.getElem?_eq_getElem hi, strm_append, List.length_append]
  have : (strm (some rs[i]).toList).length = (recL rs[i].1 rs[i].2).length := by show (strm [rs[i]]).length = _; rw [strm_cons, strm_nil, List.append_nil]
  have h2 := recL_two rs[i]
  omega
theorem cut_unique {m : LG} {rs : List RecT} (hr : Recs m rs) {i : Nat} (hi : i < rs.length) {r : Nat} (h : m.cutAt (m.lsn (strm (rs.take (i + 1))).length : Int) r) : r = i + 1 := by
  obtain ⟨h1, h2, h3⟩ := h
  rw [hr.begs_len] at h1 h3
  have e1 := strm_next rs i hi
  by_cases c1 : r ≤ i
  · have := h3 i c1 hi
    unfold LG.atLeast LG.lsn at this
    rw [hr.beg i hi] at this
    have := of_decide_eq_true this
    omega
  · by_cases c2 : i + 1 < r
    · have := h2 (i + 1) c2
      unfold LG.atLeast LG.lsn at this
      rw [hr.beg (i + 1) (by omega)] at this
      have := of_decide_eq_false this
      omega
    · omega
theorem cut_zero {m : LG} {rs : List RecT} (hr : Recs m rs) {r : Nat} (h : m.cutAt (m.lsn 0 : Int) r) : r = 0 := by
  obtain ⟨h1, h2, h3⟩ := h
  cases r with
  | zero => rfl
  | succ r =>
    have := h2 0 (by omega)
    unfold LG.atLeast LG.lsn at this
    have := of_decide_eq_false this
    omega
theorem filter_drop {α : Type} (p : α → Bool) : ∀ (l : List α) (r : Nat), (∀ i (h : i < l.length), i < r → p l[i] = false) → (∀ i (h : i < l.length), r ≤ i → p l[i] = true) → l.filter p = l.drop r
  | [], r, _, _ => by simp
  | a :: l, 0, _, h2 => by
    rw [List.drop_zero]
    refine List.filter_eq_self.2 fun x hx => ?_
    obtain ⟨i, hi, rfl⟩ := List.getElem_of_mem hx
    exact h2 i hi (Nat.zero_le _)
  | a :: l, r + 1, h1, h2 => by
    have h0 := h1 0 (by simp) (by omega)
    rw [List.getElem_cons_zero] at h0
    rw [List.drop_succ_cons, List.filter_cons_of_neg (by rw [h0]; simp)]
    exact filter_drop p l r (fun i hi hr => by have := h1 (i + 1) (by simp; omega) (by omega); simpa using this) (fun i hi hr => by have := h2 (i + 1) (by simp; omega) (by omega); simpa using this)
theorem Recs.told_at {m : LG} {rs : List RecT} (hr : Recs m rs) {ks : List RecV} (hk : ks.map RecV.told = toldOf m rs) {i : Nat} (hi : i < ks.length) : ks[i].told = m.tell i ∧ i < rs.length := by
  have hl := congrArg List.length hk
  rw [List.length_map, toldOf_len] at hl
  have h1 : (ks.map RecV.told)[i]? = m.tells[i]? := by rw [hk, hr.tells]
  unfold LG.tells at h1
  rw [List.getElem?_map, List.getElem?_map, List.getElem?_eq_getElem hi, List.getElem?_range (by rw [hr.begs_len]; omega)] at h1
  injection h1 with h1
  exact ⟨h1, by omega⟩
theorem Recs.from_ {m : LG} {rs : List RecT} (hr : Recs m rs) {ks : List RecV} (hk : ks.map RecV.told = toldOf m rs) {x : Int} {r : Nat} (h : m.cutAt x r) :
    (ks.filter fun y => decide (x ≤ (y.lsn : Int))).map RecV.told = (List.range (m.begs.length - r)).map (fun j => m.tell (r + j)) := by
  obtain ⟨h1, h2, h3⟩ := h
  have hlsn : ∀ i (hi : i < ks.length), decide (x ≤ (ks[i].lsn : Int)) = m.atLeast x i ∧ i < m.begs.length := by
    intro i hi
    obtain ⟨e, hir⟩ := hr.told_at hk hi
    have e2 : ks[i].lsn = m.lsn (m.begs.getD i 0) := congrArg Prod.fst e
    rw [e2]
    exact ⟨rfl, by rw [hr.begs_len]; exact hir⟩
  have hl := congrArg List.length hk
  rw [List.length_map, toldOf_len, ← hr.begs_len] at hl
  rw [filter_drop _ ks r (fun i hi hlt => by rw [(hlsn i hi).1]; exact h2 i hlt) (fun i hi hle => by rw [(hlsn i hi).1]; exact h3 i hle (hlsn i hi).2), List.map_drop, hk, ← hr.tells]
  unfold LG.tells
  apply List.ext_getElem?
  intro j
  rw [List.getElem?_drop, List.getElem?_map, List.getElem?_map]
  by_cases hj : j < m.begs.length - r
  · rw [List.getElem?_range (by omega), List.getElem?_range hj]; rfl
  · rw [List.getElem?_eq_none (by simp; omega), List.getElem?_eq_none (by simp; omega)]; rfl
theorem append_why {m : LG} {kind : Int} {body : List Nat} (hd : m.dead = false) (hf : m.fresh = true) (hk : 1 ≤ kind ∧ kind ≤ 255) (he : (m.append kind body).2.2 ≠ 0) :
    ((m.append kind body) = (m, 0, 4) ∧ 1200 < body.length) ∨ ((m.append kind body) = (m, 0, 90) ∧ body.length ≤ 1200 ∧ m.room < body.length + 4) := by
  unfold LG.append at he ⊢
  rw [if_neg (by rw [hd]; simp), if_neg (by rw [hf]; simp), if_neg (by omega)] at he ⊢
  by_cases h1 : 1200 < body.length
  · rw [if_pos h1]; exact .inl ⟨rfl, h1⟩
  · rw [if_neg h1] at he ⊢
    by_cases h2 : m.room < 1 + (putL body.length ++ body).length
    · rw [if_pos h2]
      refine .inr ⟨rfl, by omega, ?_⟩
      have := putL_lt 1 body.length (by omega)
      rw [List.length_append] at h2
      omega
    · rw [if_neg h2] at he; exact absurd rfl he
end Go.Proofs.Ytplkdcegfpiofaa

/-
  Steps of a drawn region by its slots: guarded ones, and what single operations give (records).
-/
namespace Go.Proofs.Ytplkdcegfpiofaa
open Go.RowKit
set_option linter.unusedVariables false

section
variable {P : Program} {ops : Array Oper} {Q : Exit → Act → World → Prop}
theorem bool_at {t : Array Value} {k : Nat} {b : Bool} (h : t.getD k undef = .bool b) : t[k]? = some (.bool b) := by
  rw [Array.getD_eq_getD_getElem?] at h
  cases h2 : t[k]? with
  | none => rw [h2] at h; cases h
  | some x => rw [h2] at h; exact congrArg some h
theorem yields {a : Act} {oj : Oper} {j t : Nat} {b : Bool} (hoj : ops[j]? = some oj) (ht : oj.dst = some t) (hv : a.tmps.getD t undef = .bool b) : yielded ops a.tmps j = some b := by
  unfold yielded
  rw [hoj]
  simp only [Option.bind_some, ht, bool_at hv]
theorem wanted_of {a : Act} {o oj : Oper} {j t : Nat} {b : Bool} (hg : o.guard = some (j, b)) (hoj : ops[j]? = some oj) (ht : oj.dst = some t) (hv : a.tmps.getD t undef = .bool b) : Region.wanted o (yielded ops a.tmps) = true := by
  unfold Region.wanted
  rw [hg]
  simp only [yields hoj ht hv, beq_self_eq_true]
theorem unwanted_of {a : Act} {o oj : Oper} {j t : Nat} {b c : Bool} (hg : o.guard = some (j, b)) (hoj : ops[j]? = some oj) (ht : oj.dst = some t) (hv : a.tmps.getD t undef = .bool c) (hne : c ≠ b) : Region.wanted o (yielded ops a.tmps) = false := by
  unfold Region.wanted
  rw [hg]
  simp only [yields hoj ht hv]
  simpa using hne
variable {S : Nat → Value → World → Prop} {I : Array Bool → World → Prop} {a0 a : Act} {L : Array Bool} {w w' : World}
theorem Slots.valG (h : Slots ops S I a0 L a w) {i : Nat} {o : Oper} (ho : ops[i]? = some o) (hw : Region.wanted o (yielded ops a.tmps) = true) {v : Value} (hrun : (execOp a.eval o).run P w = .ok (.value v) w) (hI : I (L.setIfInBounds i true) w) (hv : S i v w) :
    wpOp P ops Q i (Slots ops S I a0 (L.setIfInBounds i true)) a w := by
  unfold wpOp
  simp only [ho, hw, if_true, Oper.wp, hrun, Oper.upon]
  exact .inl (h.put ho (fun _ _ _ h => h) hI hv)
theorem Slots.callG (h : Slots ops S I a0 L a w) {i : Nat} {o : Oper} (ho : ops[i]? = some o) (hw : Region.wanted o (yielded ops a.tmps) = true) {f : FuncId} {args : Array Value} (hrun : (execOp a.eval o).run P w = .ok (.enter f args) w)
    (hc : Calls P f args w fun e w' => ∃ v, e = .returned v ∧ (∀ k u, L.getD k false = true → S k u w → S k u w') ∧ I (L.setIfInBounds i true) w' ∧ S i v w') : wpOp P ops Q i (Slots ops S I a0 (L.setIfInBounds i true)) a w := by
  unfold wpOp
  simp only [ho, hw, if_true, Oper.wp, hrun, Oper.upon]
  refine .inl (hc.mono ?_)
  rintro e w' ⟨v, rfl, hS, hI, hv⟩
  exact h.put ho hS hI hv
theorem Slots.passG (h : Slots ops S I a0 L a w) {i : Nat} {o : Oper} (ho : ops[i]? = some o) (hw : Region.wanted o (yielded ops a.tmps) = false) (hI : I (L.setIfInBounds i true) w) (hv : S i undef w) :
    wpOp P ops Q i (Slots ops S I a0 (L.setIfInBounds i true)) a w := by
  unfold wpOp
  simp only [ho, hw, Bool.false_eq_true, if_false]
  exact h.put ho (fun _ _ _ h => h) hI hv
theorem Slots.memG (h : Slots ops S I a0 L a w) {i : Nat} {o : Oper} (ho : ops[i]? = some o) (hw : Region.wanted o (yielded ops a.tmps) = true) {v : Value} (hrun : (execOp a.eval o).run P w = .ok (.value v) w')
    (hS : ∀ k u, L.getD k false = true → S k u w → S k u w') (hI : I (L.setIfInBounds i true) w') (hv : S i v w') : wpOp P ops Q i (Slots ops S I a0 (L.setIfInBounds i true)) a w := by
  unfold wpOp
  simp only [ho, hw, if_true, Oper.wp, hrun, Oper.upon]
  exact .inl (h.put ho hS hI hv)
end

section
variable {a : Act} {ty : TypeId} {pos : String} {d : Option Tmp} {af : Array Edge} {g : Option (Nat × Bool)}
theorem ro_move {x : Tmp} {v : Value} (w : World) (hx : a.tmps.getD x undef = v) :
    (execOp a.eval { dst := d, op := .move (.tmp x), type := ty, pos := pos, after := af, guard := g }).run Try.prog w = .ok (.value v) w := by
  simp only [execOp, Act.eval, hx]; rfl
theorem ro_assign {x : Tmp} {v : Value} (w : World) (hx : a.tmps.getD x undef = v) :
    (execOp a.eval { dst := d, op := .assign (.tmp x), type := ty, pos := pos, after := af, guard := g }).run Try.prog w = .ok (.value v) w := by
  simp only [execOp, Act.eval, hx]; rfl
theorem ro_assignC {v : Value} (w : World) :
    (execOp a.eval { dst := d, op := .assign (.const v), type := ty, pos := pos, after := af, guard := g }).run Try.prog w = .ok (.value v) w := by
  simp only [execOp, Act.eval]; rfl
theorem ro_call1 {x : Tmp} {u : Value} {ts : Array TypeId} {F : Nat} (hF : ∀ (args : Array Value) (w : World), (callFunc F args).run Try.prog w = .ok (.enter F args) w) (w : World) (hx : a.tmps.getD x undef = u) :
    (execOp a.eval { dst := d, op := .call { callee := .value (.func F), args := #[.tmp x], argTypes := ts }, type := ty, pos := pos, after := af, guard := g }).run Try.prog w = .ok (.enter F #[u]) w := by
  have := hF #[u] w
  simp only [execOp, resolve, Act.eval, hx, List.map_toArray, List.map]
  go_simp
theorem ro_call2 {x y : Tmp} {u v : Value} {ts : Array TypeId} {F : Nat} (hF : ∀ (args : Array Value) (w : World), (callFunc F args).run Try.prog w = .ok (.enter F args) w) (w : World) (hx : a.tmps.getD x undef = u) (hy : a.tmps.getD y undef = v) :
    (execOp a.eval { dst := d, op := .call { callee := .value (.func F), args := #[.tmp x, .tmp y], argTypes := ts }, type := ty, pos := pos, after := af, guard := g }).run Try.prog w = .ok (.enter F #[u, v]) w := by
  have := hF #[u, v] w
  simp only [execOp, resolve, Act.eval, hx, hy, List.map_toArray, List.map]
  go_simp
theorem ro_not {x : Tmp} {b : Bool} (w : World) (hx : a.tmps.getD x undef = .bool b) :
    (execOp a.eval { dst := d, op := .unOp .not 4 (.tmp x), type := ty, pos := pos, after := af, guard := g }).run Try.prog w = .ok (.value (.bool (!b))) w := by
  simp only [execOp, Act.eval, hx]
  go_simp
theorem ro_pickF {x y : Tmp} {b : Bool} {v : Value} (w : World) (hx : a.tmps.getD x undef = .bool b) (hv : b = true → a.tmps.getD y undef = .bool false) :
    (execOp a.eval { dst := d, op := .pick (.tmp x) (.tmp y) (.const (.bool false)), type := ty, pos := pos, after := af, guard := g }).run Try.prog w = .ok (.value (.bool false)) w := by
  cases b with
  | false => simp only [execOp, Act.eval, hx]; rfl
  | true => simp only [execOp, Act.eval, hx, hv rfl]; rfl
theorem ro_pickT {x y : Tmp} {v : Value} (w : World) (hx : a.tmps.getD x undef = .bool false) (hy : a.tmps.getD y undef = v) :
    (execOp a.eval { dst := d, op := .pick (.tmp x) (.const (.bool true)) (.tmp y), type := ty, pos := pos, after := af, guard := g }).run Try.prog w = .ok (.value v) w := by
  simp only [execOp, Act.eval, hx, hy]; rfl
theorem ro_add1 {x : Tmp} {k : Nat} (w : World) (hk : k ≤ 1000000000000) (hx : a.tmps.getD x undef = .int .i64 (k : Int)) :
    (execOp a.eval { dst := d, op := .binOp .add 3 (.tmp x) (.const (.int .i64 1)) 3, type := ty, pos := pos, after := af, guard := g }).run Try.prog w = .ok (.value (.int .i64 ((k : Int) + 1))) w := by
  have hw : IntKind.i64.wrap ((k : Int) + 1) = (k : Int) + 1 := by rw [IntKind.wrap_i64]; omega
  simp only [execOp, Act.eval, hx]
  go_simp
theorem ro_load_rec {x : Tmp} {p : Nat} {v0 v1 : Int} {A : Option Addr} {n c : Nat} (w : World) (hx : a.tmps.getD x undef = .pointer (some ⟨p, 0, none⟩)) (h0 : w.cell? ⟨p, 0, none⟩ = some (.int .i64 v0)) (h1 : w.cell? ⟨p, 1, none⟩ = some (.int .i64 v1)) (h2 : w.cell? ⟨p, 2, none⟩ = some (.slice A n c)) :
    (execOp a.eval { dst := d, op := .load 64 (.tmp x), type := ty, pos := pos, after := af, guard := g }).run Try.prog w = .ok (.value (.agg #[.int .i64 v0, .int .i64 v1, .slice A n c])) w := by
  simp only [execOp, Act.eval, hx]
  go_simp
theorem ro_build_rec {x : Tmp} {v0 v1 : Int} {A : Option Addr} {n c : Nat} (w : World) (hx : a.tmps.getD x undef = .agg #[.int .i64 v0, .int .i64 v1, .slice A n c]) :
    (execOp a.eval { dst := d, op := .buildSlice 58 1 #[(0, .tmp x)], type := ty, pos := pos, after := af, guard := g }).run Try.prog w = .ok (.value (.slice (some ⟨w.heap.size, 0, none⟩) 1 1)) (w.alloc (.cells #[.int .i64 v0, .int .i64 v1, .slice A n c] 64)) := by
  simp only [execOp, Act.eval, hx, List.map_toArray, List.map]
  go_simp
theorem ro_slice_rec {x y z : Tmp} {b n c i : Nat} (w : World) (hx : a.tmps.getD x undef = .slice (some ⟨b, 0, none⟩) n c) (hy : a.tmps.getD y undef = .int .i64 (i : Int)) (hz : a.tmps.getD z undef = .int .i64 ((i : Int) + 1)) (hi : i < n) (hn : n ≤ 1000000) (hc : n ≤ c) :
    (execOp a.eval { dst := d, op := .slice 58 (.tmp x) (some (.tmp y)) (some (.tmp z)) none, type := ty, pos := pos, after := af, guard := g }).run Try.prog w = .ok (.value (.slice (some ⟨b, i * 3, none⟩) 1 (c - i))) w := by
  have h1 : ¬ (c : Int) < (i : Int) + 1 := by omega
  have h2 : ¬ ((i : Int) + 1) < (i : Int) := by omega
  have h3 : 0 ≤ (i : Int) + 1 ∧ (i : Int) + 1 ≤ (c : Int) := by omega
  have h4 : ¬ c = i := by omega
  simp only [execOp, Act.eval, hx]
  go_simp
end
end Go.Proofs.Ytplkdcegfpiofaa
