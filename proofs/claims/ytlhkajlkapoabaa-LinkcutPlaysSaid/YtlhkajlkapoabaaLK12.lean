/-
  A chain's node takes another chain for what is behind it.
-/
import Derived.Test.YtlhkajlkapoabaaLK11
namespace Go.Proofs.Ytlhkajlkapoabaa
open Go.RowKit Go.Maps
set_option linter.unusedVariables false

/-- v has Y on its right side, and tells. -/
def hookN (N : Nat → NdL) (v : Nat) (Y : ST) : Nat → NdL := tellAt (withN N (upd (nOf N) v { nOf N v with r := Y.root })) v

theorem allK_append (K L : List (ST × Option Nat)) : allK (K ++ L) = allK K ++ allK L := by unfold allK; rw [List.flatMap_append]

theorem hook_perm (A B Y : ST) (v : Nat) (u : Option Nat) (K : List (ST × Option Nat)) : (allK ((.node A v false Y, u) :: (optK B (some v) ++ K))).Perm (allK ((.node A v false B, u) :: (optK Y (some v) ++ K))) := by
  rw [allK_cons, allK_cons, allK_append, allK_append, allK_opt, allK_opt]
  show ((A.flat ++ v :: Y.flat) ++ (B.flat ++ allK K)).Perm ((A.flat ++ v :: B.flat) ++ (Y.flat ++ allK K))
  rw [List.append_assoc, List.append_assoc]
  refine List.Perm.append_left _ ?_
  show (v :: (Y.flat ++ (B.flat ++ allK K))).Perm (v :: (B.flat ++ (Y.flat ++ allK K)))
  refine List.Perm.cons _ ?_
  rw [← List.append_assoc, ← List.append_assoc]
  exact List.perm_append_comm.append_right _

section

variable {S : Nat → Prop} {P : Nat → Option Nat} {N : Nat → NdL} {K : List (ST × Option Nat)} {A B Y : ST} {v : Nat} {u : Option Nat}

theorem hook_e (b : Nat) : (hookN N v Y b).e = (N b).e ∧ (hookN N v Y b).d = (N b).d := by
  have h := tellAt_e (withN N (upd (nOf N) v { nOf N v with r := Y.root })) v b
  exact ⟨h.1, h.2⟩

theorem hook_ne {b : Nat} (h : b ≠ v) : hookN N v Y b = N b := by
  unfold hookN
  rw [tellAt_ne _ h]
  exact withN_eta (upd_ne _ _ h)

theorem hook_n : nOf (hookN N v Y) v = { nOf N v with r := Y.root } := by
  unfold hookN
  rw [nOf_tellAt]
  show upd _ _ _ v = _
  rw [upd_same]

/-- The parts of two chains, told apart. -/
theorem Fs.two (h : Fs S P N ((.node A v false B, u) :: (optK Y (some v) ++ K))) : v ∉ A.flat ∧ v ∉ B.flat ∧ v ∉ Y.flat ∧ v ∉ allK K := by
  have hn := h.nodup
  rw [allK_cons, allK_append, allK_opt] at hn
  obtain ⟨n1, n2, n3⟩ := List.nodup_append.1 hn
  obtain ⟨-, -, a1, a2, -⟩ := parts (l := A) (r := B) n1
  have hv : v ∈ (ST.node A v false B).flat := by simp [ST.flat]
  exact ⟨a1, a2, fun hm => n3 v hv v (List.mem_append_left _ hm) rfl, fun hm => n3 v hv v (List.mem_append_right _ hm) rfl⟩

theorem Fs.optLaid (h : Fs S P N ((.node A v false B, u) :: (optK Y (some v) ++ K))) : LaidS (nOf N) Y (some v) ∧ ToldS N Y ∧ Line P (some v) Y.list := by
  cases hY : Y with
  | nil => exact ⟨trivial, trivial, trivial⟩
  | node l a t r =>
    have hm : (Y, some v) ∈ (ST.node A v false B, u) :: (optK Y (some v) ++ K) := by rw [hY]; simp [optK]
    rw [← hY]
    exact ⟨h.laid _ hm, h.told _ hm, h.line _ hm⟩

theorem Fs.hook (h : Fs S P N ((.node A v false B, u) :: (optK Y (some v) ++ K))) : Fs S P (hookN N v Y) ((.node A v false Y, u) :: (optK B (some v) ++ K)) := by
  obtain ⟨vA, vB, vY, vK⟩ := h.two
  obtain ⟨lY, tY, pY⟩ := h.optLaid
  have h0 : (ST.node A v false B, u) ∈ (ST.node A v false B, u) :: (optK Y (some v) ++ K) := List.mem_cons_self ..
  obtain ⟨l1, l2, l3⟩ := h.laid _ h0
  obtain ⟨t1, t2, t3⟩ := h.told _ h0
  have hf : ∀ b, b ≠ v → nOf (hookN N v Y) b = nOf N b := fun b hb => by unfold nOf; rw [hook_ne hb]
  have ha : ∀ b, b ≠ v → Alk (hookN N v Y b) (N b) := fun b hb => by rw [hook_ne hb]; exact ⟨rfl, rfl, rfl, rfl⟩
  have hln := h.line _ h0
  have hln : Line P u (A.list ++ v :: B.list) := by simpa [ST.list] using hln
  obtain ⟨p1, p2⟩ := line_append.1 hln
  have hK : ∀ c ∈ K, c ∈ (ST.node A v false B, u) :: (optK Y (some v) ++ K) := fun c hc => List.mem_cons_of_mem _ (List.mem_append_right _ hc)
  have hin : ∀ c ∈ (ST.node A v false Y, u) :: (optK B (some v) ++ K), c = (ST.node A v false Y, u) ∨ (c = (B, some v) ∧ B ≠ .nil) ∨ c ∈ K := fun c hc => by
    rcases List.mem_cons.1 hc with e | hc
    · exact .inl e
    · rcases List.mem_append.1 hc with hc | hc
      · exact .inr (.inl (mem_optK hc))
      · exact .inr (.inr hc)
  have hvS : S v := (h.part v).2 (by rw [allK_cons]; simp [ST.flat])
  have hnv : nOf (hookN N v Y) v = ⟨u, A.root, Y.root, false⟩ := by rw [hook_n, l1]
  refine ⟨?_, ?_, ?_, ?_, ?_, ?_, ?_, h.rank, ?_, ?_⟩
  · intro c hc
    rcases hin c hc with rfl | ⟨rfl, hB⟩ | hc
    · intro e; cases e
    · exact hB
    · exact h.full c (hK c hc)
  · intro b
    rw [h.part b]
    exact (hook_perm A B Y v u K).symm.mem_iff
  · exact (hook_perm A B Y v u K).nodup_iff.2 h.nodup
  · intro c hc
    rcases hin c hc with rfl | ⟨rfl, hB⟩ | hc
    · exact ⟨hnv, laidS_far l2 fun b hb => hf b (fun e => vA (e ▸ hb)), laidS_far lY fun b hb => hf b (fun e => vY (e ▸ hb))⟩
    · exact laidS_far l3 fun b hb => hf b (fun e => vB (e ▸ hb))
    · exact laidS_far (h.laid c (hK c hc)) fun b hb => hf b (fun e => vK (mem_allK.2 ⟨c, hc, e ▸ hb⟩))
  · intro c hc
    rcases hin c hc with rfl | ⟨rfl, hB⟩ | hc
    · have e1 : (withN N (upd (nOf N) v { nOf N v with r := Y.root }) v).n = ⟨u, A.root, Y.root, false⟩ := by
        show upd _ _ _ v = _
        rw [upd_same, l1]
      exact told_tell (told_far t2 fun b _ => ⟨rfl, rfl, rfl, rfl⟩) (told_far tY fun b _ => ⟨rfl, rfl, rfl, rfl⟩) (by rw [e1]) (by rw [e1]) vA vY
    · exact told_far t3 fun b hb => ha b (fun e => vB (e ▸ hb))
    · exact told_far (h.told c (hK c hc)) fun b hb => ha b (fun e => vK (mem_allK.2 ⟨c, hc, e ▸ hb⟩))
  · intro c hc g hg
    rcases hin c hc with rfl | ⟨rfl, hB⟩ | hc
    · exact h.hang _ h0 g hg
    · injection hg with hg; exact hg ▸ hvS
    · exact h.hang c (hK c hc) g hg
  · intro c hc
    rcases hin c hc with rfl | ⟨rfl, hB⟩ | hc
    · have : Line P u (A.list ++ v :: Y.list) := line_append.2 ⟨p1, pY⟩
      simpa [ST.list] using this
    · exact p2
    · exact h.line c (hK c hc)
  · rw [eds_far (N := N) fun b _ => (hook_e b).1, eds_sum N (hook_perm A B Y v u K)]
    exact h.bs
  · rw [eds_far (N := N) fun b _ => (hook_e b).1, eds_cnt N (hook_perm A B Y v u K)]
    exact h.bk

end

/-- What a node tells stays within bounds. -/
theorem Fs.hook_bounds {S : Nat → Prop} {P : Nat → Option Nat} {N : Nat → NdL} {K : List (ST × Option Nat)} {A B Y : ST} {v : Nat} {u : Option Nat} (h : Fs S P N ((.node A v false B, u) :: (optK Y (some v) ++ K))) :
    (N v).e.stepS + sOf (A.root.map N) + sOf (Y.root.map N) < 2 ^ 53 ∧ (N v).e.stepK + kOf (A.root.map N) + kOf (Y.root.map N) < 2 ^ 53 := by
  obtain ⟨lY, tY, pY⟩ := h.optLaid
  obtain ⟨t1, t2, t3⟩ := h.told _ (List.mem_cons_self ..)
  have h1 := h.bs
  have h2 := h.bk
  rw [(told_root t2).1, (told_root tY).1, (told_root t2).2, (told_root tY).2]
  unfold eds at h1 h2 ⊢
  rw [allK_cons, allK_append, allK_opt] at h1 h2
  simp only [ST.flat, List.map_append, List.map_cons, sumE_append, sumE_cons, cntE_append, cntE_cons] at h1 h2
  omega

end Go.Proofs.Ytlhkajlkapoabaa
