/-
  The walk of New.
-/
import Derived.Test.YtlhkajlkapoabaaLK24
namespace Go.Proofs.Ytlhkajlkapoabaa
open Go.RowKit Go.Maps
set_option linter.unusedVariables false

theorem fs_none (P : Nat → Option Nat) (hr : ∃ rk, Ranks P rk) (N : Nat → NdL) : Fs (fun _ => False) P N [] :=
  ⟨(fun c hc => by cases hc), fun b => ⟨(fun h => h.elim), (fun h => by cases h)⟩, List.nodup_nil, (fun c hc => by cases hc), (fun c hc => by cases hc), (fun c hc => by cases hc), (fun c hc => by cases hc), hr, by show (0 : Nat) < _; decide, by show (0 : Nat) < _; decide⟩

theorem gd_none (P : Nat → Option Nat) (N : Nat → NdL) : Gd (fun _ => False) P N ⟨[], []⟩ (fun _ => none) (fun _ => none) where
  vk v := ⟨(fun ⟨a, e⟩ => by cases e), (fun h => by cases h)⟩
  ek i := ⟨(fun ⟨a, e⟩ => by cases e), (fun ⟨e, h, _⟩ => by cases h)⟩
  vnd := List.nodup_nil
  idnd := List.nodup_nil
  vinj u v a e := by cases e
  einj i j k e := by cases e
  apart v i a e := by cases e
  full k := ⟨(fun h => h.elim), (fun h => by rcases h with ⟨v, e⟩ | ⟨i, e⟩ <;> cases e)⟩
  vN v a e := by cases e
  eN e he := by cases he
  ends e he := by cases he
  adj e he := by cases he
  vadj v a e := by cases e

def NewF (w' : World) (f bv be : Nat) : Prop := LFAt w' f bv be (fun _ => False) (fun _ => none) (fun _ => toldL Eg.zero 0) [] (fun _ => none) (fun _ => none) ⟨[], []⟩

theorem new_at (w : World) : NewF (((w.alloc (.map #[] 0)).alloc (.map #[] 0)).alloc (.cells #[.map (some w.heap.size), .map (some (w.heap.size + 1))] 64)) (w.heap.size + 2) w.heap.size (w.heap.size + 1) := by
  obtain ⟨w1, h1⟩ : ∃ w1, w1 = w.alloc (.map #[] 0) := ⟨_, rfl⟩
  obtain ⟨w2, h2⟩ : ∃ w2, w2 = w1.alloc (.map #[] 0) := ⟨_, rfl⟩
  rw [← h1, ← h2]
  have s1 : w1.heap.size = w.heap.size + 1 := by rw [h1]; simp
  have s2 : w2.heap.size = w.heap.size + 2 := by rw [h2]; simp [s1]
  have b2 : Below w1.heap.size w1 w2 := by rw [h2]; exact (Below.refl _ _).alloc (Nat.le_refl _) _
  have m1 : MapG kI pQ w1 w.heap.size 0 (fun _ => none) := by rw [h1]; exact MapG.made w
  have m2 : MapG kI pQ w2 w1.heap.size 0 (fun _ => none) := by rw [h2]; exact MapG.made w1
  have b3 : Below w2.heap.size w2 (w2.alloc (.cells #[.map (some w.heap.size), .map (some (w.heap.size + 1))] 64)) := (Below.refl _ _).alloc (Nat.le_refl _) _
  have m1' := ((m1.same (b2.block _ (by omega))).same (b3.block _ (by omega))).mono (n' := 4096) (by omega)
  have m2' := (m2.same (b3.block _ (by omega))).mono (n' := 4096) (by omega)
  have hb := Blk.new w2 64 #[.map (some w.heap.size), .map (some (w.heap.size + 1))]
  rw [s2] at hb
  rw [s1] at m2'
  exact ⟨⟨hb, m1', m2', (fun a ha => ha.elim), fs_none _ ⟨fun _ => 0, fun b g e => by cases e⟩ _, (fun v a e => by cases e), (fun v a e => by cases e), (fun h => h), (fun h => h), (by omega)⟩, gd_none _ _, by simp, (fun v hv => by cases hv), (fun e he => by cases he)⟩

set_option maxRecDepth 100000 in
set_option maxHeartbeats 4000000 in
theorem new_any (w : World) :
    Calls Try.prog 8 #[] w fun e w' => e = .returned (.pointer (some ⟨w.heap.size + 2, 0, none⟩)) ∧ NewF w' (w.heap.size + 2) w.heap.size (w.heap.size + 1) ∧ Below w.heap.size w w' := by
  have hmm := @run_makeMap Try.prog
  have HB : Hid (Below w.heap.size w (((w.alloc (.map #[] 0)).alloc (.map #[] 0)).alloc (.cells #[.map (some w.heap.size), .map (some (w.heap.size + 1))] 64))) := Lib.hid ((((Below.refl _ _).alloc (Nat.le_refl _) _).alloc (by simp) _).alloc (by simp; omega) _)
  go_enter Try.func8, Try.ntmps8
  go_wp2_with fail
  go_ret
  exact ⟨rfl, new_at w, HB.out⟩

set_option maxRecDepth 100000 in
set_option maxHeartbeats 4000000 in
theorem len_any {w : World} {f bv be : Nat} {S : Nat → Prop} {P : Nat → Option Nat} {N : Nat → NdL} {K : List (ST × Option Nat)} {vs es : Int → Option Nat} {F : LF} (h : LFAt w f bv be S P N K vs es F) :
    Calls Try.prog 11 #[.pointer (some ⟨f, 0, none⟩)] w fun e w' => e = .returned (.tuple #[.int .i64 (F.vs.length : Int), .int .i64 (F.es.length : Int)]) ∧ Below w.heap.size w w' := by
  have c0 : w.cell? ⟨f, 0, none⟩ = some (.map (some bv)) := h.at_.blk.cell 0
  have c1 : w.cell? ⟨f, 1, none⟩ = some (.map (some be)) := h.at_.blk.cell 1
  have l1 := MapG.len (X := kI) (h.at_.verts.same (w' := w.drew) rfl) Try.underlying62 (L := F.vs) h.gd.vnd h.vkeys 3
  have l2 := MapG.len (X := kI) (h.at_.edges.same (w' := w.drew) rfl) Try.underlying62 (L := F.es.map Eg.id) h.gd.idnd h.ekeys 3
  rw [List.length_map] at l2
  obtain ⟨n, hn⟩ : ∃ n, n = F.vs.length := ⟨_, rfl⟩
  obtain ⟨m, hm⟩ : ∃ n, n = F.es.length := ⟨_, rfl⟩
  rw [← hn] at l1
  rw [← hm] at l2
  rw [← hn, ← hm]
  clear h hn hm
  go_enter Try.func11, Try.ntmps11
  go_wp2_with fail
  go_region
  go_wp2_with fail
  go_ret2
  exact ⟨rfl, (Below.refl _ _).drew⟩

end Go.Proofs.Ytlhkajlkapoabaa
