/-
  skeinlaw14's asks, whatever the call; skeinref14's New.
-/
import Derived.Test.YtgahkloldpjnkaaMV19c
namespace Go.Proofs.Ytgahkloldpjnkaa
open Go.RowKit Go.Maps
set_option linter.unusedVariables false

theorem asks_any (w : World) (g : Nat) (S : Nat → Prop) (M : MV) (hT : Tb w g S M) (v : Value) (xs : List TxV) (M' : MV) (h : RTab w v xs M') (kd n : Int) (rA : Option Addr) (rn rc : Nat) (rs : List Rf) (ho : OpMAt w ⟨kd, n, rA, rn, rc, rs⟩) (hr1 : M'.txns.length + 1 ≤ 400000) (hr2 : M'.bulk + rs.length ≤ 800000) (hr3 : M.txns.length ≤ 400000) (hr4 : M.bulk + rs.length ≤ 800000) :
    Calls Try.prog 11 #[.pointer (some ⟨g, 0, none⟩), rtV v M'.last, .agg #[.int .i64 kd, .int .i64 n, .slice rA rn rc]] w (AskOut w g S (M.run ⟨kd, n, rA, rn, rc, rs⟩) (M'.run ⟨kd, n, rA, rn, rc, rs⟩) (M' = M)) := by
  have hu : RR w w.heap.size (.slice rA rn rc) rs := ho.refs
  have hn : I64 n := ho.n64
  have hrs : ∀ r ∈ rs, I64 r.snd := ho.r64
  have hrn : rn = rs.length := by
    obtain ⟨_, _, e, _⟩ := hu.open_
    injection e
  subst hrn
  by_cases h1 : kd = 1
  · subst h1; exact asks_1 w g S M hT v xs M' h n rA _ rc hr1 hr3
  · by_cases h2 : kd = 2
    · subst h2; exact asks_2 w g S M hT v xs M' h n rA rc hn rs hu hrs hr2 hr4
    · by_cases h3 : kd = 3
      · subst h3; exact asks_3 w g S M hT v xs M' h n rA _ rc hn (by omega)
      · by_cases h4 : kd = 4
        · subst h4; exact asks_4 w g S M hT v xs M' h n rA _ rc hn
        · rw [run_0 M n rA _ rc rs h1 h2 h3 h4, run_0 M' n rA _ rc rs h1 h2 h3 h4]
          by_cases h5 : kd = 5
          · subst h5; exact asks_5 w g S M hT v xs M' h n rA _ rc hn
          · by_cases h6 : kd = 6
            · subst h6; exact asks_6 w g S M hT v xs M' h n rA _ rc hn
            · exact asks_0 w g S M hT v xs M' h kd ⟨h1, h2, h3, h4, h5, h6⟩ n rA _ rc

theorem bAsks (B : Nat) (w : World) (g : Nat) (M : MV) (hT : TbB B w g M) (hB : B ≤ w.heap.size) (v : Value) (xs : List TxV) (M' : MV) (h : RTab w v xs M') (kd n : Int) (rA : Option Addr) (rn rc : Nat) (rs : List Rf) (ho : OpMAt w ⟨kd, n, rA, rn, rc, rs⟩) (hr1 : M'.txns.length + 1 ≤ 400000) (hr2 : M'.bulk + rs.length ≤ 800000) (hr3 : M.txns.length ≤ 400000) (hr4 : M.bulk + rs.length ≤ 800000) :
    Calls Try.prog 11 #[.pointer (some ⟨g, 0, none⟩), rtV v M'.last, .agg #[.int .i64 kd, .int .i64 n, .slice rA rn rc]] w fun e w' => ∃ v' xs' b, e = .returned (.tuple #[rtV v' (M'.run ⟨kd, n, rA, rn, rc, rs⟩).last, .bool b]) ∧ RTab w' v' xs' (M'.run ⟨kd, n, rA, rn, rc, rs⟩) ∧ TbB B w' g (M.run ⟨kd, n, rA, rn, rc, rs⟩) ∧ Tame B w w' ∧ (M' = M → b = true) := by
  obtain ⟨S, h1, h2⟩ := hT
  refine (asks_any w g S M h1 v xs M' h kd n rA rn rc rs ho hr1 hr2 hr3 hr4).mono ?_
  rintro e w' ⟨v', xs', b, h3, h4, h5, h6⟩
  obtain ⟨h7, h8⟩ := turn_b h1 h2 hB h5
  exact ⟨v', xs', b, h3, h4, h7, h8, h6⟩

theorem OpMAt.below {w w' : World} {o : OpM} (h : OpMAt w o) (hb : Below w.heap.size w w') : OpMAt w' o := ⟨(h.refs.below hb).more hb.size, h.n64, h.r64⟩

theorem TbB.setBlk {B : Nat} {w : World} {g b : Nat} {M : MV} {cs : Array Value} {t : TypeId} (h : TbB B w g M) (hb : Blk w b t cs) (ht : t ≠ 60) (j : Nat) (u : Value) : TbB B (w.setCell ⟨b, j, none⟩ u) g M := by
  obtain ⟨S, h1, h2⟩ := h
  refine ⟨S, h1.mod ((Mod.refl (fun k => k = b) w).setCell (p := ⟨b, j, none⟩) (fun _ => rfl) u) (fun k hk e => ?_), h2⟩
  subst e
  exact h1.not_row hb ht hk

set_option maxRecDepth 100000 in
theorem rNew_lo (w : World) (last : Int) (hl : last < 0) :
    Calls Try.prog 10 #[.int .i64 last] w fun e w' => e = .returned (rtV (.slice none 0 0) 0) ∧ Below w.heap.size w w' := by
  unfold rtV
  go_enter Try.func10, Try.ntmps10
  go_wp2_with fail
  obtain ⟨WE, hWE⟩ : ∃ WE, WE = w.alloc (.cells #[.slice none 0 0, .int .i64 0] 28) := ⟨_, rfl⟩
  rw [← hWE]
  have bE : Below w.heap.size w WE := by rw [hWE]; exact (Below.refl _ _).alloc (Nat.le_refl _) _
  have kE : Blk WE w.heap.size 28 #[.slice none 0 0, .int .i64 0] := by rw [hWE]; exact Blk.new _ _ _
  have r0 : WE.cell? ⟨w.heap.size, 0, none⟩ = some (.slice none 0 0) := kE.cell 0
  have r1 : WE.cell? ⟨w.heap.size, 1, none⟩ = some (.int .i64 0) := kE.cell 1
  clear hWE
  refine bodyPost_ret (v := .agg #[.slice none 0 0, .int .i64 0]) (by simp [results, Try.results10, go_sem, r0, r1]) rfl ?_
  exact ⟨rfl, bE⟩

set_option maxRecDepth 100000 in
theorem rNew_hi (w : World) (last : Int) (hl : 1099511627776 < last) :
    Calls Try.prog 10 #[.int .i64 last] w fun e w' => e = .returned (rtV (.slice none 0 0) 1099511627776) ∧ Below w.heap.size w w' := by
  unfold rtV
  go_enter Try.func10, Try.ntmps10
  go_wp2_with fail
  obtain ⟨WE, hWE⟩ : ∃ WE, WE = w.alloc (.cells #[.slice none 0 0, .int .i64 1099511627776] 28) := ⟨_, rfl⟩
  rw [← hWE]
  have bE : Below w.heap.size w WE := by rw [hWE]; exact (Below.refl _ _).alloc (Nat.le_refl _) _
  have kE : Blk WE w.heap.size 28 #[.slice none 0 0, .int .i64 1099511627776] := by rw [hWE]; exact Blk.new _ _ _
  have r0 : WE.cell? ⟨w.heap.size, 0, none⟩ = some (.slice none 0 0) := kE.cell 0
  have r1 : WE.cell? ⟨w.heap.size, 1, none⟩ = some (.int .i64 1099511627776) := kE.cell 1
  clear hWE
  refine bodyPost_ret (v := .agg #[.slice none 0 0, .int .i64 1099511627776]) (by simp [results, Try.results10, go_sem, r0, r1]) rfl ?_
  exact ⟨rfl, bE⟩

set_option maxRecDepth 100000 in
theorem rNew_in (w : World) (last : Int) (hl : 0 ≤ last ∧ last ≤ 1099511627776) :
    Calls Try.prog 10 #[.int .i64 last] w fun e w' => e = .returned (rtV (.slice none 0 0) last) ∧ Below w.heap.size w w' := by
  unfold rtV
  go_enter Try.func10, Try.ntmps10
  go_wp2_with fail
  obtain ⟨WE, hWE⟩ : ∃ WE, WE = w.alloc (.cells #[.slice none 0 0, .int .i64 last] 28) := ⟨_, rfl⟩
  rw [← hWE]
  have bE : Below w.heap.size w WE := by rw [hWE]; exact (Below.refl _ _).alloc (Nat.le_refl _) _
  have kE : Blk WE w.heap.size 28 #[.slice none 0 0, .int .i64 last] := by rw [hWE]; exact Blk.new _ _ _
  have r0 : WE.cell? ⟨w.heap.size, 0, none⟩ = some (.slice none 0 0) := kE.cell 0
  have r1 : WE.cell? ⟨w.heap.size, 1, none⟩ = some (.int .i64 last) := kE.cell 1
  clear hWE
  refine bodyPost_ret (v := .agg #[.slice none 0 0, .int .i64 last]) (by simp [results, Try.results10, go_sem, r0, r1]) rfl ?_
  exact ⟨rfl, bE⟩

end Go.Proofs.Ytgahkloldpjnkaa
