/-
  Plain words shared by the seat's texts: slices of bytes as lists of numbers, and the sum's steps. No walk.
-/
import Derived.Test.YtbagmmncjmbboaaGreatRows
import Derived.WalkKit
import Derived.Laws.BitsAllLaws
import Derived.Deep.AppendLies
import Derived.Maps.AppendAt
import Derived.Deep.Draws
import Derived.Laws.BytesString
import Derived.Laws.Cells
namespace Go.Proofs.YtbagmmncjmbboaaGreat
open Go.RowKit

/-- A byte's cell. -/
def bcell (x : Nat) : Value := .int .u8 (x : Int)

/-- The slice value v reads as the bytes l in world w, in blocks below B. -/
def RB (w : World) (B : Nat) (v : Value) (l : List Nat) : Prop :=
  (∀ x ∈ l, x < 256) ∧ l.length ≤ 140737488355328 ∧
  ∃ A c, v = .slice A l.length c ∧ l.length ≤ c ∧ c ≤ 9223372036854775807 ∧
    (l = [] ∨ ∃ b off, A = some ⟨b, off, none⟩ ∧ b < B ∧ ∀ j x : Nat, l[j]? = some x → w.cell? ⟨b, off + j, none⟩ = some (.int .u8 (x : Int)))

theorem RB.lt {w : World} {B : Nat} {v : Value} {l : List Nat} (h : RB w B v l) (j : Nat) (hj : j < l.length) : l[j] < 256 := h.1 _ (List.getElem_mem hj)

theorem RB.len {w : World} {B : Nat} {v : Value} {l : List Nat} (h : RB w B v l) : l.length ≤ 140737488355328 := h.2.1

theorem RB.keep {w w' : World} {B : Nat} {v : Value} {l : List Nat} (h : RB w B v l) (hk : ∀ b o, b < B → w'.cell? ⟨b, o, none⟩ = w.cell? ⟨b, o, none⟩) : RB w' B v l := by
  obtain ⟨h1, h2, A, c, rfl, h3, h4, h5⟩ := h
  refine ⟨h1, h2, A, c, rfl, h3, h4, ?_⟩
  rcases h5 with h5 | ⟨b, off, rfl, hb, hc⟩
  · exact .inl h5
  · exact .inr ⟨b, off, rfl, hb, fun j x hx => (hk b _ hb).trans (hc j x hx)⟩

theorem RB.below {w w' : World} {B : Nat} {v : Value} {l : List Nat} (h : RB w B v l) (hb : Below B w w') : RB w' B v l := h.keep fun b o hlt => hb.cell (p := ⟨b, o, none⟩) hlt

theorem RB.more {w : World} {B B' : Nat} {v : Value} {l : List Nat} (h : RB w B v l) (hB : B ≤ B') : RB w B' v l := by
  obtain ⟨h1, h2, A, c, rfl, h3, h4, h5⟩ := h
  refine ⟨h1, h2, A, c, rfl, h3, h4, ?_⟩
  rcases h5 with h5 | ⟨b, off, rfl, hb, hc⟩
  · exact .inl h5
  · exact .inr ⟨b, off, rfl, by omega, hc⟩

theorem RB.alloc {w : World} {B : Nat} {v : Value} {l : List Nat} (h : RB w B v l) (hB : B ≤ w.heap.size) (o : Obj) : RB (w.alloc o) B v l :=
  h.below ((Below.refl B w).alloc hB o)

theorem RB.drew {w : World} {B : Nat} {v : Value} {l : List Nat} (h : RB w B v l) : RB w.drew B v l := h

theorem RB.drewN {w : World} {B : Nat} {v : Value} {l : List Nat} (h : RB w B v l) (n : Nat) : RB (w.drewN n) B v l := h

theorem RB.open_ {w : World} {B : Nat} {v : Value} {l : List Nat} (h : RB w B v l) : ∃ A c, v = .slice A l.length c ∧ l.length ≤ c ∧ c ≤ 9223372036854775807 ∧ l.length ≤ 140737488355328 ∧
    Hid (∀ j, (h : j < l.length) → ∃ b off, A = some ⟨b, off, none⟩ ∧ b < B ∧ w.cell? ⟨b, off + j, none⟩ = some (.int .u8 (l[j] : Nat)) ∧ l[j] < 256) := by
  obtain ⟨h1, h2, A, c, rfl, h3, h4, h5⟩ := h
  refine ⟨A, c, rfl, h3, h4, h2, ?_⟩
  intro j h
  rcases h5 with rfl | ⟨b, off, rfl, hb, hc⟩
  · simp at h
  · exact ⟨b, off, rfl, hb, hc j _ (List.getElem?_eq_getElem h), h1 _ (List.getElem_mem h)⟩

/-- v is a slice of bytes of the call's own, from block B on: it owns the cells l. -/
def OB (w : World) (B : Nat) (v : Value) (l : List Nat) : Prop :=
  (∀ x ∈ l, x < 256) ∧ l.length ≤ 140737488355328 ∧ w.ownsRow B 5 1 v l.length (l.map bcell)

theorem OB.rb {w : World} {B B' : Nat} {v : Value} {l : List Nat} (h : OB w B v l) (hB : w.heap.size ≤ B') : RB w B' v l := by
  obtain ⟨h1, h2, h3⟩ := h
  have h4 := h3
  rcases h3.2 with ⟨rfl, hn⟩ | ⟨g, cap, cur, rfl, hb, hg, hn, hc, hs, ht⟩
  · have : l = [] := List.eq_nil_of_length_eq_zero hn
    subst this
    exact ⟨by simp, by simp, none, 0, rfl, by simp, by simp, .inl rfl⟩
  · refine ⟨h1, h2, some ⟨g, 0, none⟩, cap, rfl, hn, by simpa [maxLen] using hc, .inr ⟨g, 0, rfl, ?_, ?_⟩⟩
    · have := (Array.getElem?_eq_some_iff.1 hg).1; omega
    · intro j x hx
      have := h4.cellAt j (by have := List.getElem?_eq_some_iff.1 hx; obtain ⟨h, _⟩ := this; omega)
      rw [Nat.zero_add, this]; simp [hx, bcell]

theorem OB.alloc {w : World} {B : Nat} {v : Value} {l : List Nat} (h : OB w B v l) (o : Obj) : OB (w.alloc o) B v l := ⟨h.1, h.2.1, h.2.2.alloc o⟩

theorem OB.drew {w : World} {B : Nat} {v : Value} {l : List Nat} (h : OB w B v l) : OB w.drew B v l := h

theorem OB.kept {w w' : World} {B : Nat} {v : Value} {l : List Nat} {row : Option Nat} (h : OB w B v l) (hg : w.grownBy w' row) (hne : v.ownBlock = none ∨ v.ownBlock ≠ row) : OB w' B v l :=
  ⟨h.1, h.2.1, h.2.2.kept hg hne⟩

theorem OB.lt {w : World} {B : Nat} {v : Value} {l : List Nat} (h : OB w B v l) : ∀ k, v.ownBlock = some k → B ≤ k ∧ k < w.heap.size := h.2.2.lt

theorem OB.below {w w' : World} {B : Nat} {v : Value} {l : List Nat} (h : OB w B v l) (hb : Below w.heap.size w w') : OB w' B v l :=
  h.kept (row := none) ⟨hb.os, hb.tape, hb.output, hb.size, fun k hk _ => hb.block k hk⟩ (by cases v.ownBlock <;> simp)

/-- Owned from an earlier block on. -/
theorem OB.base {w : World} {B B' : Nat} {v : Value} {l : List Nat} (h : OB w B v l) (hB : B' ≤ B) : OB w B' v l := by
  obtain ⟨h1, h2, h3, h4⟩ := h
  refine ⟨h1, h2, h3, ?_⟩
  rcases h4 with h4 | ⟨g, cap, cur, hv, hg, r⟩
  · exact .inl h4
  · exact .inr ⟨g, cap, cur, hv, by omega, r⟩

theorem OB.nil (w : World) (B : Nat) : OB w B (.slice none 0 0) [] := ⟨by simp, by simp, World.ownsRow_nil _ _ _ _⟩

theorem OB.made (w : World) (B : Nat) (cur : Array Value) (cap : Nat) (hB : B ≤ w.heap.size) (hm : cap ≤ 9223372036854775807) (hs : cur.size = cap) :
    OB (w.alloc (.cells cur 5)) B (.slice (some ⟨w.heap.size, 0, none⟩) 0 cap) [] := ⟨by simp, by simp, World.ownsRow_made w cur cap hB (by simpa [maxLen] using hm) (by omega)⟩

/-- 'append(out, x)' lays x in a block of its own first. -/
theorem RB.new1 (w : World) (B : Nat) (i : Int) (x : Nat) (t : TypeId) (hi : i = (x : Int)) (hx : x < 256) (hB : w.heap.size < B) : RB (w.alloc (.cells #[.int .u8 i] t)) B (.slice (some ⟨w.heap.size, 0, none⟩) 1 1) [x] := by
  subst hi
  refine ⟨by simpa using hx, by simp, some ⟨w.heap.size, 0, none⟩, 1, rfl, by simp, by simp, .inr ⟨_, _, rfl, hB, ?_⟩⟩
  intro j y hj
  match j, hj with
  | 0, hj => simp at hj; subst hj; simp

/-- A new block of cells reads as its bytes. -/
theorem RB.newRow (w : World) (B g : Nat) (cs : Array Value) (t : TypeId) (l : List Nat) (c : Nat) (hg : g = w.heap.size) (h : cs.toList = l.map bcell) (hl : ∀ x ∈ l, x < 256) (hlen : l.length ≤ 140737488355328) (hc : l.length ≤ c) (hc' : c ≤ 9223372036854775807) (hB : g < B) (fr : Nat × Nat := (0, 0)) :
    RB (w.alloc (.cells cs t fr)) B (.slice (some ⟨g, 0, none⟩) l.length c) l := by
  subst hg
  refine ⟨hl, hlen, some ⟨w.heap.size, 0, none⟩, c, rfl, hc, hc', .inr ⟨_, _, rfl, hB, ?_⟩⟩
  intro j x hj
  rw [cell_of_row (w.alloc (.cells cs t fr)) w.heap.size (0 + j) cs t fr (heap_alloc_new w _), Nat.zero_add, ← Array.getElem?_toList, h, List.getElem?_map, hj]
  rfl

theorem bcells_at {w : World} {b off : Nat} {l : List Nat} (h : ∀ j x : Nat, l[j]? = some x → w.cell? ⟨b, off + j, none⟩ = some (.int .u8 (x : Int))) : ∀ j u, (l.map bcell)[j]? = some u → w.cell? ((⟨b, off, none⟩ : Addr).add j) = some u := by
  intro j u hu
  rw [List.getElem?_map] at hu
  cases hx : l[j]? with
  | none => rw [hx] at hu; simp at hu
  | some x =>
    rw [hx] at hu
    simp [bcell] at hu
    subst hu
    have : (⟨b, off, none⟩ : Addr).add j = ⟨b, off + j, none⟩ := by unfold Addr.add; split <;> simp_all
    rw [this]
    exact h j x hx

/-- 'string(b)'. -/
def strOf (l : List Nat) : ByteArray := (l.map (fun x : Nat => (x : Int))).foldl (fun r n => r.push (UInt8.ofNat n.toNat)) ByteArray.empty

theorem run_b2s (w : World) (B : Nat) (v : Value) (l : List Nat) (h : RB w B v l) : (convert 22 9 v).run Tryz.prog w = .ok (.string (strOf l)) w := by
  obtain ⟨_, _, A, c, rfl, _, _, h5⟩ := h
  rw [run_convert_bytes_string w 22 9 5 _ _ _ Tryz.underlying22 Tryz.underlying5 Tryz.underlying9]
  rcases h5 with rfl | ⟨b, off, rfl, _, hc⟩
  · cases A with
    | none => simp [Conv.bytesToString, strOf, Sem.run_pure]
    | some x =>
      have := run_loadCells_list (P := Tryz.prog) (w := w) x [] (by simp)
      exact run_bytesToString w _ _ _ _ this
  · have := run_loadCells_list (P := Tryz.prog) (w := w) ⟨b, off, none⟩ (l.map bcell) (bcells_at hc)
    rw [List.length_map] at this
    refine run_bytesToString w _ _ _ _ (this.trans ?_)
    congr 2
    rw [List.map_map]
    rfl

theorem info5 : (Tryz.prog.info? 5).map (fun i => (i.zero, i.size, i.bytes)) = some (some (.int .u8 0), 1, 1) := by kernel_rfl

/-- Where an append leaves its row: where it was, or in a new block, and then nothing old is written. -/
def Moved (w w' : World) (v v' : Value) : Prop := v'.ownBlock = v.ownBlock ∨ (v'.ownBlock = some w.heap.size ∧ w.grownBy w' none)

theorem run_app (w : World) (ty : TypeId) (base : Nat) (v : Value) (l : List Nat) (hown : OB w base v l) (B : Nat) (u : Value) (m : List Nat) (hr : RB w B u m)
    (hbase : base ≤ w.heap.size) (hlen : l.length + m.length ≤ 140737488355328) :
    ∃ v' w', (Builtin.append_ #[22, 22] ty #[v, u]).run Tryz.prog w = .ok v' w' ∧ OB w' base v' (l ++ m) ∧ w.grownBy w' v.ownBlock ∧ Moved w w' v v' := by
  obtain ⟨i0, hi, hz0, hz1, hz2⟩ := info_parts info5
  obtain ⟨o1, o2, hown⟩ := hown
  obtain ⟨r1, r2, A, c, rfl, r3, r4, r5⟩ := hr
  have hall : ∀ x ∈ l ++ m, x < 256 := by
    intro x hx
    rcases List.mem_append.1 hx with hx | hx
    · exact o1 x hx
    · exact r1 x hx
  by_cases hnil : A = none ∧ m = []
  · obtain ⟨rfl, rfl⟩ := hnil
    refine ⟨v, w, ?_, ⟨hall, by simpa using o2, by simpa using hown⟩, World.grownBy.refl w _, .inl rfl⟩
    rcases hown.2 with ⟨rfl, hn⟩ | ⟨g, cap, cur, rfl, _, _, hnc, _⟩
    · simp [Builtin.append_, run_underlying Tryz.underlying22, sizeOf, typeInfo, hi, Builtin.lenOf, Builtin.firstCells]
    · simp [Builtin.append_, run_underlying Tryz.underlying22, sizeOf, typeInfo, hi, Builtin.lenOf, Builtin.firstCells, hnc, storeCells]
  · obtain ⟨ad, rfl, hca⟩ : ∃ ad, A = some ad ∧ ∀ j u, (m.map bcell)[j]? = some u → w.cell? (ad.add j) = some u := by
      rcases r5 with rfl | ⟨b, off, rfl, hb, hc⟩
      · cases A with
        | none => exact (hnil ⟨rfl, rfl⟩).elim
        | some ad => exact ⟨ad, rfl, by simp⟩
      · exact ⟨_, rfl, bcells_at hc⟩
    obtain ⟨v', w', hrun, h2, h3, _, h5⟩ := run_append_own_at (P := Tryz.prog) w base 22 ty 5 i0 _ 1 1 Tryz.underlying22 hi hz0 hz1 hz2 rfl (by omega) v _ _ hown ad m.length c (m.map bcell) (by simp) hca
      (by intro u hu; simp [bcell] at hu; obtain ⟨x, _, rfl⟩ := hu; rfl) (by simp only [maxLen]; omega) (by omega) hbase
    refine ⟨v', w', hrun, ⟨hall, by rw [List.length_append]; omega, by rw [List.length_append, List.map_append]; exact h2⟩, h3, ?_⟩
    rcases h5 with h5 | h5
    · exact .inl h5
    · refine .inr ⟨h5, ?_⟩
      rcases hown.2 with ⟨rfl, hn⟩ | ⟨g, cap, cur, rfl, hbg, hg, hnc, hcm, hcs, htake⟩
      · exact h3
      · by_cases hroom : l.length + m.length ≤ cap
        · obtain ⟨w2, hrun2, _, _⟩ := run_append_fits (P := Tryz.prog) w base 22 ty 5 i0 1 Tryz.underlying22 hi hz1 g l.length cap (l.map bcell) hown ad m.length c (m.map bcell) (by simp) hca
            (by intro u hu; simp [bcell] at hu; obtain ⟨x, _, rfl⟩ := hu; rfl) hroom
          rw [hrun2] at hrun
          injection hrun with e1 e2
          subst e1
          have := (Array.getElem?_eq_some_iff.1 hg).1
          simp [Value.ownBlock] at h5
          omega
        · have hrun2 := run_append_grow (P := Tryz.prog) w 22 ty 5 i0 _ Tryz.underlying22 hi hz0 ⟨g, 0, none⟩ l.length cap (l.map bcell) (by simp [hz1]) (hown.cells (g := g) rfl) ad m.length c (m.map bcell) (by simp [hz1]) hca (by omega) (by omega) (growslice_fits (by omega) (by rw [hz2]; omega))
          rw [hrun2] at hrun
          injection hrun with e1 e2
          subst e2
          exact ⟨rfl, rfl, rfl, by simp, fun k hk _ => heap_alloc_old w.drew _ hk⟩

theorem wp_app {w : World} {o : Oper} {a : Act} {K : Act → World → Prop} {Q : Exit → Act → World → Prop} (s x : Operand)
    (ho : o.op = .call { callee := .builtin .append, args := #[s, x], argTypes := #[22, 22] })
    (base : Nat) (v : Value) (l : List Nat) (hs : a.eval s = v) (hown : OB w base v l) (B : Nat) (u : Value) (m : List Nat) (hx : a.eval x = u) (hr : RB w B u m)
    (hbase : base ≤ w.heap.size) (hlen : l.length + m.length ≤ 140737488355328)
    (h : ∀ v' w', OB w' base v' (l ++ m) → w.grownBy w' v.ownBlock → Moved w w' v v' → K (a.put o.dst v') w') : o.wp Tryz.prog a w K Q := by
  obtain ⟨v', w', hrun, h2, h3, h4⟩ := run_app w o.type base v l hown B u m hr hbase hlen
  unfold Oper.wp execOp
  simp only [ho, resolve, invoke, builtin, Sem.run_bind, Sem.run_pure, Result.andThen_ok, List.map_toArray, List.map_cons, List.map_nil, hs, hx, hrun]
  exact h v' w' h2 h3 h4

theorem wpList_app {w : World} {ops : Array Oper} {rest : List Oper} {o : Oper} {a : Act} {Q : Exit → Act → World → Prop} (hgd : o.guard = none) (s x : Operand)
    (ho : o.op = .call { callee := .builtin .append, args := #[s, x], argTypes := #[22, 22] })
    (base : Nat) (v : Value) (l : List Nat) (hs : a.eval s = v) (hown : OB w base v l) (B : Nat) (u : Value) (m : List Nat) (hx : a.eval x = u) (hr : RB w B u m)
    (hbase : base ≤ w.heap.size) (hlen : l.length + m.length ≤ 140737488355328)
    (h : ∀ v' w', OB w' base v' (l ++ m) → w.grownBy w' v.ownBlock → Moved w w' v v' → wpList Tryz.prog ops Q rest (a.put o.dst v') w') : wpList Tryz.prog ops Q (o :: rest) a w :=
  wpList_plain hgd fun _ hK => wp_app s x ho base v l hs hown B u m hx hr hbase hlen fun v' w' h2 h3 h4 => hK _ _ (h v' w' h2 h3 h4)

theorem step_app {w : World} {ops : Array Oper} {o : Oper} {a : Act} {K : Act → World → Prop} {Q : Exit → Act → World → Prop} {E : Prop} (hgd : o.guard = none) (s x : Operand)
    (ho : o.op = .call { callee := .builtin .append, args := #[s, x], argTypes := #[22, 22] })
    (base : Nat) (v : Value) (l : List Nat) (hs : a.eval s = v) (hown : OB w base v l) (B : Nat) (u : Value) (m : List Nat) (hx : a.eval x = u) (hr : RB w B u m)
    (hbase : base ≤ w.heap.size) (hlen : l.length + m.length ≤ 140737488355328)
    (h : ∀ v' w', OB w' base v' (l ++ m) → w.grownBy w' v.ownBlock → Moved w w' v v' → K (a.put o.dst v') w') :
    if Region.wanted o (yielded ops a.tmps) = true then Oper.wp Tryz.prog o a w K Q else E := by
  have hw : Region.wanted o (yielded ops a.tmps) = true := by simp [Region.wanted, hgd]
  rw [if_pos hw]
  exact wp_app s x ho base v l hs hown B u m hx hr hbase hlen h

/-- 'out = append(out, x)': x lies in a block of its own first. -/
theorem wpList_app1 {w w0 : World} {ops : Array Oper} {rest : List Oper} {o : Oper} {a : Act} {Q : Exit → Act → World → Prop} (hgd : o.guard = none) (s x : Operand)
    (ho : o.op = .call { callee := .builtin .append, args := #[s, x], argTypes := #[22, 22] })
    (B : Nat) (v : Value) (pre : List Nat) (hs : a.eval s = v) (hown : OB w B v pre) (hbel : Below B w0 w) (hB : B ≤ w0.heap.size)
    (i : Int) (y : Nat) (hi : i = (y : Int)) (hy : y < 256) (hx : a.eval x = .slice (some ⟨w.heap.size, 0, none⟩) 1 1) (hlen : pre.length + 1 ≤ 140737488355328)
    (h : ∀ v' w', OB w' B v' (pre ++ [y]) → Below B w0 w' → Moved (w.alloc (.cells #[.int .u8 i] 5)) w' v v' → wpList Tryz.prog ops Q rest (a.put o.dst v') w') :
    wpList Tryz.prog ops Q (o :: rest) a (w.alloc (.cells #[.int .u8 i] 5)) := by
  have hsz := hbel.size
  refine wpList_app hgd s x ho B v pre hs (hown.alloc _) (w.heap.size + 1) _ [y] hx (RB.new1 w _ i y 5 hi hy (by omega)) (by simp; omega) (by simpa using hlen) ?_
  intro v' w' h1 h2 h3
  exact h v' w' h1 ((hbel.alloc (by omega) _).grown h2 (by simp; omega) (fun k hk => (hown.lt k hk).1)) h3

def crcStep (n : Nat) : Nat := (n / 2) ^^^ (if n % 2 = 1 then 3988292384 else 0)

def crcSteps : Nat → Nat → Nat
  | 0, n => n
  | k+1, n => crcStep (crcSteps k n)

theorem crcStep_lt (n : Nat) (h : n < 4294967296) : crcStep n < 4294967296 := by
  unfold crcStep
  have h1 : n / 2 < 2^32 := by omega
  have h2 : (if n % 2 = 1 then 3988292384 else 0) < 2^32 := by split <;> omega
  exact Nat.xor_lt_two_pow h1 h2

theorem crcSteps_lt (k n : Nat) (h : n < 4294967296) : crcSteps k n < 4294967296 := by
  induction k with
  | zero => exact h
  | succ k ih => exact crcStep_lt _ ih

theorem crcStep_bits (n : Nat) (h : n < 4294967296) : bits BinOp.xor IntKind.u32 ((n : Int) / 2)
              (bits BinOp.and IntKind.u32 3988292384 (-bits BinOp.and IntKind.u32 (n : Int) 1 % 4294967296)) = (crcStep n : Nat) := by
  have e1 : bits BinOp.and IntKind.u32 (n : Int) 1 = ((n % 2 : Nat) : Int) := by
    have := u32_and_nat n 1 h (by omega)
    rw [nat_mask1] at this
    exact this
  rw [e1]
  unfold crcStep
  have e0 : ((n : Int) / 2) = ((n / 2 : Nat) : Int) := by omega
  rw [e0]
  rcases Nat.mod_two_eq_zero_or_one n with h2 | h2
  · rw [h2]
    have e3 : bits BinOp.and IntKind.u32 3988292384 (-((0 : Nat) : Int) % 4294967296) = ((0 : Nat) : Int) := by decide
    rw [e3, u32_xor_nat _ _ (by omega) (by omega)]
    simp
  · rw [h2]
    have e3 : bits BinOp.and IntKind.u32 3988292384 (-((1 : Nat) : Int) % 4294967296) = ((3988292384 : Nat) : Int) := by decide
    rw [e3, u32_xor_nat _ _ (by omega) (by omega)]
    simp

/-- The register behind one byte more; behind bytes. -/
def crcByte (r c : Nat) : Nat := crcSteps 8 (r ^^^ c)

def crcReg (r : Nat) (l : List Nat) : Nat := l.foldl crcByte r

theorem xor32_lt (a b : Nat) (ha : a < 4294967296) (hb : b < 4294967296) : a ^^^ b < 4294967296 := Nat.xor_lt_two_pow (n := 32) ha hb

theorem crcByte_lt (r c : Nat) (hr : r < 4294967296) (hc : c < 256) : crcByte r c < 4294967296 := crcSteps_lt _ _ (xor32_lt _ _ hr (by omega))

theorem crcReg_lt (l : List Nat) : ∀ r, r < 4294967296 → (∀ x ∈ l, x < 256) → crcReg r l < 4294967296 := by
  induction l with
  | nil => intro r hr _; exact hr
  | cons a l ih => intro r hr hl; exact ih _ (crcByte_lt _ _ hr (hl a (by simp))) (fun x hx => hl x (by simp [hx]))

theorem crcReg_append (r : Nat) (a b : List Nat) : crcReg r (a ++ b) = crcReg (crcReg r a) b := List.foldl_append

def crcSum (l : List Nat) : Nat := crcReg 4294967295 l ^^^ 4294967295

theorem crcSum_lt (l : List Nat) (hl : ∀ x ∈ l, x < 256) : crcSum l < 4294967296 := xor32_lt _ _ (crcReg_lt l _ (by omega) hl) (by omega)

end Go.Proofs.YtbagmmncjmbboaaGreat
