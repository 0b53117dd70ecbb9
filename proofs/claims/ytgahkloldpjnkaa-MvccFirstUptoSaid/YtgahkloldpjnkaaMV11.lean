/-
  The walk of Commit.
-/
import Derived.Test.YtgahkloldpjnkaaMV10
import Derived.Test.YtgahkloldpjnkaaMV9d
namespace Go.Proofs.Ytgahkloldpjnkaa
open Go.RowKit Go.Maps
set_option linter.unusedVariables false

theorem Commit_none (w : World) (g lb cb : Nat) (bl : Int → Nat) (M : MV) (h : MvAt w g lb cb bl M) (n : Int) (hn : I64 n) (hl : M.live? n = none) :
    Calls Try.prog 21 #[.pointer (some ⟨g, 0, none⟩), .int .i64 n] w fun e w' => e = .returned (.tuple #[.int .i64 0, .int .i64 141]) ∧ Below w.heap.size w w' := by
  have he : M.tryE n = 141 := by unfold MV.tryE; rw [hl]
  have hc := Try_none w g lb cb bl M h n hn hl
  unfold TryOut at hc
  rw [he] at hc
  clear h hl he
  go_enter_defers Try.func21, Try.ntmps21
  go_wp2_with (go_at_call 24; refine hc.mono ?_; rintro e w' ⟨rfl, hb⟩; have HB := Lib.hid hb; clear hb)
  exact ⟨_, results_tmp2 rfl _ _ _, rfl, HB.out⟩

theorem try_cases {M : MV} {n : Int} {x : Tx} (hl : M.live? n = some x) : M.tryE n = 140 ∨ M.tryE n = 4 ∨ M.tryE n = 0 := by
  unfold MV.tryE
  rw [hl]
  dsimp only
  split
  · exact .inl rfl
  · split
    · exact .inr (.inl rfl)
    · exact .inr (.inr rfl)

/-- What is left behind a commit, or behind what is none. -/
def ComOut (w : World) (g lb cb : Nat) (bl : Int → Nat) (M M' : MV) (t c : Int) (e : Ending) (w' : World) : Prop :=
  e = .returned (.tuple #[.int .i64 t, .int .i64 c]) ∧ MvAt w' g lb cb bl M' ∧ Mod (OwnM g lb cb bl M) w w' ∧ ∀ k, OwnM g lb cb bl M' k → OwnM g lb cb bl M k

theorem Commit_fail (w : World) (g lb cb : Nat) (bl : Int → Nat) (M : MV) (h : MvAt w g lb cb bl M) (n : Int) (hn : I64 n) (x : Tx) (hl : M.live? n = some x) (c : Int) (hc0 : M.tryE n = c) (h1 : (c == 141) = false) (h2 : (c != 0) = true) :
    Calls Try.prog 21 #[.pointer (some ⟨g, 0, none⟩), .int .i64 n] w (ComOut w g lb cb bl M (M.over n) 0 c) := by
  have hc := Try_some w g lb cb bl M h n hn x hl
  unfold TryOut at hc
  rw [hc0] at hc
  have H := Lib.hid h
  have HL := Lib.hid hl
  clear h hl hc0
  go_enter_defers Try.func21, Try.ntmps21
  go_wp2_with (go_at_call 24; refine hc.mono ?_; rintro e w' ⟨rfl, hb⟩; have HB := Lib.hid hb; clear hb)
  refine leaves_cons (f := 33) (args := #[.pointer (some ⟨g, 0, none⟩), .int .i64 n]) (by simp) (by simp [go_sem]) ?_
  refine (end_d .returning w' g lb cb bl M (H.out.below HB.out) n hn x HL.out).mono ?_
  rintro e u' w'' ⟨rfl, rfl, h1, h2, h3⟩
  exact ⟨_, results_tmp2 rfl _ _ _, rfl, h1, (Mod.of_below HB.out _).trans' h2, h3⟩

theorem Commit_zero (w : World) (g lb cb : Nat) (bl : Int → Nat) (M : MV) (h : MvAt w g lb cb bl M) (n : Int) (hn : I64 n) (x : Tx) (hl : M.live? n = some x) (hc0 : M.tryE n = 0) (hr0 : x.refs = []) :
    Calls Try.prog 21 #[.pointer (some ⟨g, 0, none⟩), .int .i64 n] w (ComOut w g lb cb bl M (M.over n) x.start 0) := by
  have hc := Try_some w g lb cb bl M h n hn x hl
  unfold TryOut at hc
  rw [hc0] at hc
  have H := Lib.hid h
  have HL := Lib.hid hl
  have HR0 := Lib.hid hr0
  clear h hl hc0 hr0
  go_enter_defers Try.func21, Try.ntmps21
  go_wp2_with fail
  refine hc.mono ?_
  rintro e w1 ⟨rfl, hb⟩
  have HB := Lib.hid hb
  clear hb
  have h1 := H.out.below HB.out
  have b2 : w1.cell? ⟨g, 2, none⟩ = some (.map (some lb)) := h1.blk.cell 2
  have hvv : ((M.live? n).map fun x => txV x.start (bl n)).getD (.agg #[.int .i64 0, .map none]) = .agg #[.int .i64 x.start, .map (some (bl n))] := by rw [HL.out]; rfl
  have HM := Lib.hid h1.live
  have HV := Lib.hid hvv
  have hset := (h1.sets n x HL.out).mod (w' := w1.alloc (.cells #[.int .i64 x.start, .map (some (bl n))] 80)) ((Mod.refl (fun _ => False) _).alloc _) (fun h => h)
  have HSET := Lib.hid hset
  have HN : Hid ((nub x.refs).length = 0) := Lib.hid (by rw [HR0.out]; rfl)
  have HNI := Lib.hid (nub_in h1.ok HL.out)
  have H1 := Lib.hid h1
  clear h1 hvv hset hc
  go_wp2_with (first
    | (at_lookup; refine wpList_lookG1 (X := kI) rfl _ _ _ rfl _ Try.underlying57 (zeroT _) pT_zero lb 8 rfl HM.out n rfl hn _ HV.out ?_)
    | (at_len; refine wpList_lenG (X := kR) rfl _ _ rfl _ Try.underlying78 (bl n) _ rfl HSET.out (nub x.refs) (nodup_nub _) (fun r => HNI.out r) 0 HN.out ?_))
  refine leaves_cons (f := 33) (args := #[.pointer (some ⟨g, 0, none⟩), .int .i64 n]) (by simp) (by simp [go_sem]) ?_
  refine (end_d .returning _ g lb cb bl M (H1.out.alloc _) n hn x HL.out).mono ?_
  rintro e u' w'' ⟨rfl, rfl, h1, h2, h3⟩
  exact ⟨_, results_tmp2 rfl _ _ _, rfl, h1, ((Mod.of_below HB.out _).trans' ((Mod.refl _ _).alloc _)).trans' h2, h3⟩

end Go.Proofs.Ytgahkloldpjnkaa
