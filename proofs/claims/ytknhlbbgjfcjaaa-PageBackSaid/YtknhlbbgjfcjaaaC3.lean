/-
  The walk of crc.Open.
-/
import Derived.Test.YtknhlbbgjfcjaaaC2
import Derived.Handy
import Derived.Laws.Cover3
namespace Go.Proofs.Ytknhlbbgjfcjaaa
open Go.RowKit
set_option linter.unusedVariables false

def openOk (l : List Nat) : Bool := decide (4 ≤ l.length ∧ l.take 4 = sumBytes (crcSum (l.drop 4)))
def openL (l : List Nat) : List Nat := if openOk l then l.drop 4 else []

theorem RB.len_eq {w : World} {B : Nat} {A : Option Addr} {n c : Nat} {l : List Nat} (h : RB w B (.slice A n c) l) : n = l.length := by
  obtain ⟨_, _, A', c', hv, _⟩ := h
  injection hv

set_option maxHeartbeats 400000 in
theorem open_short (v : Value) (l : List Nat) (w : World) (hv : RB w w.heap.size v l) (hl : l.length < 4) :
    Calls Try.prog 154 #[v] w fun e w' => e = .returned (.tuple #[.slice none 0 0, .bool false]) ∧ w = w' := by
  obtain ⟨h1, h2, A, c, rfl, h3, h4, h5⟩ := hv
  clear h1 h5
  go_enter Try.func154, Try.ntmps154
  go_wp2
  go_ret2
  exact ⟨rfl, rfl⟩

theorem RP.one {w W : World} {u : Value} {t : List Nat} {g B : Nat} (hg : g = W.heap.size) (hw : Below B w W) (hu : RB w B u t) (hB : B ≤ W.heap.size) : RP (W.alloc (.cells #[u] 22)) B g 0 [t] := by
  intro i hi
  have : i = 0 := by simp at hi; omega
  subst this
  subst hg
  exact ⟨u, by simp, (hu.below hw).alloc hB _⟩
theorem RP.drew {w : World} {B p off : Nat} {ps : List (List Nat)} (h : RP w B p off ps) : RP w.drew B p off ps := h

theorem run_eq4 (W : World) (d : Nat) (a0 a1 a2 a3 b0 b1 b2 b3 : Int) : (Op.equalIn (d + 2) 203 (.agg #[.int .u8 a0, .int .u8 a1, .int .u8 a2, .int .u8 a3]) (.agg #[.int .u8 b0, .int .u8 b1, .int .u8 b2, .int .u8 b3])).run Try.prog W =
    .ok (a0 == b0 && (a1 == b1 && (a2 == b2 && a3 == b3))) W := by
  have h0 := fun (x y : Int) (w : World) => run_equalIn_int (P := Try.prog) w d 5 .u8 .u8 x y Try.underlying5
  rw [Op.equalIn]
  simp only [run_underlying Try.underlying203, Sem.run_bind, Result.andThen_ok]
  simp [go_sem, h0, Std.Legacy.Range.forIn_eq_forIn_range', List.range']
  by_cases e0 : a0 = b0 <;> by_cases e1 : a1 = b1 <;> by_cases e2 : a2 = b2 <;> by_cases e3 : a3 = b3 <;> simp [e0, e1, e2, e3]
theorem openOk_eq (x0 x1 x2 x3 : Nat) (t : List Nat) : openOk (x0 :: x1 :: x2 :: x3 :: t) =
    ((x0 : Int) == (crcSum t : Int) % 256 && ((x1 : Int) == (crcSum t : Int) / 256 % 256 && ((x2 : Int) == (crcSum t : Int) / 65536 % 256 && (x3 : Int) == (crcSum t : Int) / 16777216))) := by
  unfold openOk
  rw [Bool.eq_iff_iff]
  simp [sumBytes]
  omega
theorem run_eqOk (W : World) (x0 x1 x2 x3 : Nat) (t : List Nat) : (Op.equalIn 10000 203 (.agg #[.int .u8 (x0 : Int), .int .u8 (x1 : Int), .int .u8 (x2 : Int), .int .u8 (x3 : Int)])
    (.agg #[.int .u8 ((crcSum t : Int) % 256), .int .u8 ((crcSum t : Int) / 256 % 256), .int .u8 ((crcSum t : Int) / 65536 % 256), .int .u8 ((crcSum t : Int) / 16777216)])).run Try.prog W = .ok (openOk (x0 :: x1 :: x2 :: x3 :: t)) W := by
  rw [openOk_eq]; exact run_eq4 W 9998 _ _ _ _ _ _ _ _

theorem OB.madeAt (w : World) (B g : Nat) (cur : Array Value) (cap : Nat) (hg : g = w.heap.size) (hB : B ≤ w.heap.size) (hm : cap ≤ 9223372036854775807) (hs : cur.size = cap) :
    OB (w.alloc (.cells cur 5)) B (.slice (some ⟨g, 0, none⟩) 0 cap) [] := by subst hg; exact OB.made w B cur cap hB hm hs
def Cells4 (w : World) (b off x0 x1 x2 x3 : Nat) : Prop := w.cell? ⟨b, off, none⟩ = some (.int .u8 (x0 : Int)) ∧ w.cell? ⟨b, off + 1, none⟩ = some (.int .u8 (x1 : Int)) ∧ w.cell? ⟨b, off + 2, none⟩ = some (.int .u8 (x2 : Int)) ∧ w.cell? ⟨b, off + 3, none⟩ = some (.int .u8 (x3 : Int))
theorem keep4 {w w' : World} {b off x0 x1 x2 x3 : Nat} (h : Cells4 w b off x0 x1 x2 x3) (hb : b < w.heap.size) (hw : Below w.heap.size w w') :
    w'.cell? ⟨b, off, none⟩ = some (.int .u8 (x0 : Int)) ∧ w'.cell? ⟨b, off + 1, none⟩ = some (.int .u8 (x1 : Int)) ∧ w'.cell? ⟨b, off + 2, none⟩ = some (.int .u8 (x2 : Int)) ∧ w'.cell? ⟨b, off + 3, none⟩ = some (.int .u8 (x3 : Int)) := by
  obtain ⟨h0, h1, h2, h3⟩ := h
  exact ⟨(hw.cell (p := ⟨b, off, none⟩) hb).trans h0, (hw.cell (p := ⟨b, off + 1, none⟩) hb).trans h1, (hw.cell (p := ⟨b, off + 2, none⟩) hb).trans h2, (hw.cell (p := ⟨b, off + 3, none⟩) hb).trans h3⟩

set_option maxHeartbeats 400000 in
theorem open_long (v : Value) (l : List Nat) (w : World) (hv : RB w w.heap.size v l) (hl : 4 ≤ l.length) :
    Calls Try.prog 154 #[v] w fun e w' => ∃ v', e = .returned (.tuple #[v', .bool (openOk l)]) ∧ OB w' w.heap.size v' (openL l) ∧ Below w.heap.size w w' := by
  have hlt : ∀ x ∈ l.drop 4, x < 256 := fun x hx => hv.1 x (List.mem_of_mem_drop hx)
  have hs := crcSum_lt _ hlt
  obtain ⟨h1, h2, A, c, rfl, h3, h4, h5⟩ := hv
  rcases h5 with rfl | ⟨b, off, rfl, hb, hc⟩
  · simp at hl
  obtain ⟨x0, x1, x2, x3, t, rfl⟩ : ∃ x0 x1 x2 x3 t, l = x0 :: x1 :: x2 :: x3 :: t := by
    match l, hl with
    | x0 :: x1 :: x2 :: x3 :: t, _ => exact ⟨x0, x1, x2, x3, t, rfl⟩
  have c0 : w.cell? ⟨b, off, none⟩ = some (.int .u8 (x0 : Int)) := hc 0 x0 rfl
  have c1 : w.cell? ⟨b, off + 1, none⟩ = some (.int .u8 (x1 : Int)) := hc 1 x1 rfl
  have c2 : w.cell? ⟨b, off + 2, none⟩ = some (.int .u8 (x2 : Int)) := hc 2 x2 rfl
  have c3 : w.cell? ⟨b, off + 3, none⟩ = some (.int .u8 (x3 : Int)) := hc 3 x3 rfl
  simp only [List.drop_succ_cons, List.drop_zero] at hs
  obtain ⟨n, hn⟩ : ∃ n, n = (x0 :: x1 :: x2 :: x3 :: t).length := ⟨_, rfl⟩
  rw [← hn] at hl h2 h3 ⊢
  have HN := Lib.hid hn
  have HC := Lib.hid hc
  have H1 := Lib.hid h1
  clear hn hc h1 hlt
  have hT1 : c = 4 → RB w w.heap.size (.slice (some ⟨b, off, none⟩) (n - 4) 0) t := by
    intro h
    have hn := HN.out
    simp at hn
    have : t = [] := List.eq_nil_of_length_eq_zero (by omega)
    subst this
    have e0 : n - 4 = 0 := by omega
    exact ⟨by simp, by simp, some ⟨b, off, none⟩, 0, by rw [e0]; rfl, by simp, by simp, .inr ⟨b, off, rfl, hb, by simp⟩⟩
  have hT2 : ¬ c = 4 → RB w w.heap.size (.slice (some ⟨b, off + 4, none⟩) (n - 4) (c - 4)) t := by
    intro h
    have hn := HN.out
    simp at hn
    refine ⟨fun x hx => H1.out x (by simp [hx]), by omega, some ⟨b, off + 4, none⟩, c - 4, by congr 1; omega, by omega, by omega, .inr ⟨b, off + 4, rfl, hb, fun j x hx => ?_⟩⟩
    have := HC.out (j + 4) x (by simpa using hx)
    rw [← this]
    congr 2
    omega
  have HT1 := Lib.hid hT1
  have HT2 := Lib.hid hT2
  clear hT1 hT2
  have hblt : b < w.heap.size := hb
  have H4 : Hid (Cells4 w b off x0 x1 x2 x3) := ⟨c0, c1, c2, c3⟩
  have heq := fun W => run_eqOk W x0 x1 x2 x3 t
  have hL : openL (x0 :: x1 :: x2 :: x3 :: t) = if openOk (x0 :: x1 :: x2 :: x3 :: t) then t else [] := by simp [openL]
  have hat : ∀ (W : World) (cap : Nat), (Instr.arrayAt 203 (.slice (some ⟨b, off, none⟩) n cap)).run Try.prog W = .ok (.pointer (some ⟨b, off, none⟩)) W := fun W cap => run_arrayAt (P := Try.prog) W 203 5 4 _ n cap Try.underlying203 hl
  rw [hL]
  clear hL
  have ht : t.length ≤ 140737488355328 := by have := HN.out; simp at this; omega
  obtain ⟨ok, hok⟩ : ∃ ok, ok = openOk (x0 :: x1 :: x2 :: x3 :: t) := ⟨_, rfl⟩
  rw [← hok] at heq ⊢
  clear hok
  cases ok <;> (go_enter Try.func154, Try.ntmps154; go_wp2_with fail)
  all_goals
    first | have hu := HT1.out (by assumption) | have hu := HT2.out (by assumption)
    have HU := Lib.hid hu
    clear hu HT1 HT2
    go_region_held3 (fun w' => w'.cell? ⟨b, off, none⟩ = some (.int .u8 (x0 : Int)) ∧ w'.cell? ⟨b, off + 1, none⟩ = some (.int .u8 (x1 : Int)) ∧ w'.cell? ⟨b, off + 2, none⟩ = some (.int .u8 (x2 : Int)) ∧ w'.cell? ⟨b, off + 3, none⟩ = some (.int .u8 (x3 : Int)))
      ((refine keep4 H4.out hblt ?_; go_grown))
      (first
        | (go_at_call 83; refine (crcSum_any w.heap.size 0 1 w.heap.size [t] _ (by exact RP.one (w := w) rfl (Below.refl _ _) HU.out (Nat.le_refl _)) (by simp)).mono ?_; rintro e w' ⟨rfl, rfl⟩; simp only [List.flatten_cons, List.flatten_nil, List.append_nil])
        | (go_at_call 161; refine (lowestFirst_any _ _ hs).mono ?_; rintro e w' ⟨rfl, o, rfl⟩))
    all_goals
      go_wp2_with (at_builtin; go_must (refine wpList_app rfl (.tmp 18) (.tmp 19) rfl w.heap.size (.slice (some ⟨w.heap.size + 1 + 1, 0, none⟩) 0 0) [] rfl (by exact (OB.madeAt _ _ _ _ _ (by simp) (by simp; omega) (by simp) rfl).drew) w.heap.size _ t rfl (by exact (HU.out.below (by go_grown))) (by simp; omega) (by simpa using ht) ?_); intro v' w' ho hg hat'; have HO := Lib.hid ho; have HG := Lib.hid hg; clear ho hg hat')
      go_ret2
      first
        | exact ⟨_, rfl, OB.nil _ _, by go_grown⟩
        | exact ⟨_, rfl, HO.out, (Below.grown (by go_grown) HG.out (by simp; omega) (fun k hk => by simp [Value.ownBlock] at hk; omega))⟩
end Go.Proofs.Ytknhlbbgjfcjaaa
