/-
  The walk of expose.
-/
import Derived.Test.YtlhkajlkapoabaaLK12
namespace Go.Proofs.Ytlhkajlkapoabaa
open Go.RowKit Go.Maps
set_option linter.unusedVariables false

/-- a is b or above it. -/
inductive Anc (P : Nat → Option Nat) : Nat → Nat → Prop
  | refl (a : Nat) : Anc P a a
  | step {a b g : Nat} : Anc P a b → P a = some g → Anc P g b

theorem line_anc {P : Nat → Option Nat} : ∀ {l : List Nat} {g v : Nat}, Line P (some g) l → v ∈ l → Anc P g v
  | [], _, _, _, h => by simp at h
  | a :: l, g, v, ⟨h1, h2⟩, h => by
    rcases List.mem_cons.1 h with rfl | h
    · exact .step (.refl _) h1
    · exact .step (line_anc h2 h) h1

theorem Anc.trans {P : Nat → Option Nat} {a b c : Nat} (h : Anc P a b) (h' : Anc P b c) : Anc P a c := by
  induction h with
  | refl _ => exact h'
  | step _ e ih => exact .step (ih h') e

/-- On the way of expose: the chain Y below xo ends with n. -/
structure Ex (S : Nat → Prop) (P : Nat → Option Nat) (w0 : World) (N : Nat → NdL) (K : List (ST × Option Nat)) (n : Nat) (w : World) (N' : Nat → NdL) (K' : List (ST × Option Nat)) (xo : Option Nat) (Y : ST) : Prop where
  at_ : NAt w S N'
  mod : Mod S w0 w
  fs : Fs S P N' (optK Y xo ++ K')
  tail : (Y = .nil ∧ xo = some n) ∨ ∃ l, Y.list = l ++ [n]
  same : ∀ b, (N' b).e = (N b).e ∧ (N' b).d = (N b).d
  inS : ∀ v, xo = some v → S v ∧ Anc P v n
  off : ∀ c ∈ K, (∀ b ∈ c.1.flat, ¬ Anc P b n) → c ∈ K' ∧ ∀ b ∈ c.1.flat, N' b = N b

section

variable {S : Nat → Prop} {P : Nat → Option Nat} {w0 w : World} {N N' N2 : Nat → NdL} {K K' K1 : List (ST × Option Nat)} {n v : Nat} {xo u : Option Nat} {Y A B : ST}

theorem sOf_with (N : Nat → NdL) (M : Nat → LN) (o : Option Nat) : sOf (o.map (withN N M)) = sOf (o.map N) ∧ kOf (o.map (withN N M)) = kOf (o.map N) := by cases o <;> exact ⟨rfl, rfl⟩

/-- The chain of the node above. -/
theorem Ex.next (E : Ex S P w0 N K n w N' K' (some v) Y) : ∃ c K1, K'.Perm (c :: K1) ∧ v ∈ c.1.flat ∧ Fs S P N' (c :: (optK Y (some v) ++ K1)) := by
  have hv := (E.fs.part v).1 (E.inS v rfl).1
  rw [allK_append, allK_opt] at hv
  have hvK : v ∈ allK K' := by
    rcases List.mem_append.1 hv with h | h
    · exfalso
      cases hY : Y with
      | nil => rw [hY] at h; simp [ST.flat] at h
      | node l a t r =>
        have hf := E.fs
        rw [hY] at hf
        exact Fs.hang_out (c := (ST.node l a t r, some v)) (K := K') hf rfl (by rw [← hY]; exact h)
    · exact h
  obtain ⟨c, hc, hvc⟩ := mem_allK.1 hvK
  obtain ⟨s, t, e⟩ := List.append_of_mem hc
  refine ⟨c, s ++ t, by rw [e]; exact List.perm_middle, hvc, E.fs.perm ?_⟩
  have hp : K'.Perm (c :: (s ++ t)) := by rw [e]; exact List.perm_middle
  exact (hp.append_left _).trans List.perm_middle

theorem Ex.step {c : ST × Option Nat} {w1 w2 : World} (E : Ex S P w0 N K n w N' K' (some v) Y) (hp : K'.Perm (c :: K1)) (hvc : v ∈ c.1.flat) (hf : Fs S P N' (c :: (optK Y (some v) ++ K1)))
    (R : Rt S w c.2 N' c.1 w1 N2 (.node A v false B)) (h2 : NAt w2 S (hookN N2 v Y)) (m2 : Mod S w1 w2) : Ex S P w0 N K n w2 (hookN N2 v Y) (optK B (some v) ++ K1) c.2 (.node A v false Y) := by
  have f2 := hf.turn R
  have f3 := Fs.hook f2
  refine ⟨h2, (E.mod.trans' R.mod).trans' m2, f3, .inr ?_, ?_, ?_, ?_⟩
  · have e : (ST.node A v false Y).list = A.list ++ v :: Y.list := by simp [ST.list]
    rw [e]
    rcases E.tail with ⟨rfl, hx⟩ | ⟨l, hl⟩
    · injection hx with hx
      exact ⟨A.list, by rw [hx]; rfl⟩
    · exact ⟨A.list ++ v :: l, by rw [hl]; simp⟩
  · intro b
    have e1 := hook_e (N := N2) (Y := Y) (v := v) b
    exact ⟨(e1.1.trans (R.same b).1).trans (E.same b).1, (e1.2.trans (R.same b).2).trans (E.same b).2⟩
  · intro g hg
    have hl := hf.line c (List.mem_cons_self ..)
    rw [hg] at hl
    exact ⟨hf.hang c (List.mem_cons_self ..) g hg, (line_anc hl ((ST.perm_flat c.1).mem_iff.2 hvc)).trans (E.inS v rfl).2⟩
  · intro d hd hno
    obtain ⟨o1, o2⟩ := E.off d hd hno
    have hne : d ≠ c := fun e => hno v (by rw [e]; exact hvc) (E.inS v rfl).2
    have hd1 : d ∈ K1 := by
      rcases List.mem_cons.1 (hp.mem_iff.1 o1) with e | h
      · exact absurd e hne
      · exact h
    refine ⟨List.mem_append_right _ hd1, fun b hb => ?_⟩
    have hbc : b ∉ c.1.flat := fun hm => hf.apart hm d (List.mem_append_right _ hd1) hb
    have hbv : b ≠ v := fun e => hbc (e ▸ hvc)
    rw [hook_ne hbv, R.off b hbc]
    exact o2 b hb

end

/-- What expose leaves. -/
structure ExD (S : Nat → Prop) (P : Nat → Option Nat) (w0 : World) (N : Nat → NdL) (K : List (ST × Option Nat)) (n : Nat) (w : World) (N' : Nat → NdL) (K' : List (ST × Option Nat)) (A : ST) : Prop where
  at_ : NAt w S N'
  mod : Mod S w0 w
  fs : Fs S P N' ((.node A n false .nil, none) :: K')
  same : ∀ b, (N' b).e = (N b).e ∧ (N' b).d = (N b).d
  off : ∀ c ∈ K, (∀ b ∈ c.1.flat, ¬ Anc P b n) → c ∈ K' ∧ ∀ b ∈ c.1.flat, N' b = N b

theorem Ex.done {S : Nat → Prop} {P : Nat → Option Nat} {w0 w w1 : World} {N N' N2 : Nat → NdL} {K K' : List (ST × Option Nat)} {n : Nat} {Y A B : ST} (E : Ex S P w0 N K n w N' K' none Y) (hf : Fs S P N' ((Y, none) :: K')) (R : Rt S w none N' Y w1 N2 (.node A n false B)) : ∃ A, ExD S P w0 N K n w1 N2 K' A := by
  have f2 := hf.turn R
  obtain ⟨l, hl⟩ : ∃ l, Y.list = l ++ [n] := by
    rcases E.tail with ⟨-, h⟩ | h
    · cases h
    · exact h
  have hli : A.list ++ n :: B.list = l ++ [n] := by
    have := R.list
    rw [hl] at this
    simpa [ST.list] using this
  have hnd : (A.list ++ n :: B.list).Nodup := by
    have h1 : (ST.node A n false B).list.Nodup := (ST.perm_flat _).nodup_iff.2 (f2.ctx.nodup)
    simpa [ST.list] using h1
  have hB : B.list = [] := by
    cases hb : B.list with
    | nil => rfl
    | cons b bs =>
      exfalso
      rw [hb] at hli hnd
      have hmem : n ∈ b :: bs := by
        have hc := List.dropLast_concat_getLast (show b :: bs ≠ [] by simp)
        rw [← hc] at hli ⊢
        have e : A.list ++ n :: ((b :: bs).dropLast ++ [(b :: bs).getLast (by simp)]) = (A.list ++ n :: (b :: bs).dropLast) ++ [(b :: bs).getLast (by simp)] := by simp
        rw [e] at hli
        have h2 := (List.append_inj' hli rfl).2
        injection h2 with h2
        rw [h2]
        simp
      exact (List.nodup_cons.1 (List.nodup_append.1 hnd).2.1).1 hmem
  have hBn : B = .nil := by
    cases B with
    | nil => rfl
    | node bl b t br =>
      have hm : b ∈ (ST.node bl b t br).list := (ST.perm_flat _).mem_iff.2 (by simp [ST.flat])
      rw [hB] at hm
      simp at hm
  subst hBn
  refine ⟨A, R.at_, E.mod.trans' R.mod, f2, fun b => ⟨(R.same b).1.trans (E.same b).1, (R.same b).2.trans (E.same b).2⟩, fun c hc hno => ?_⟩
  obtain ⟨o1, o2⟩ := E.off c hc hno
  refine ⟨o1, fun b hb => ?_⟩
  rw [R.off b fun hm => hf.apart hm c o1 hb]
  exact o2 b hb

set_option maxRecDepth 100000 in
set_option maxHeartbeats 8000000 in
theorem expose_any (w : World) (S : Nat → Prop) (P : Nat → Option Nat) (N : Nat → NdL) (K : List (ST × Option Nat)) (h : Fs S P N K) (hN : NAt w S N) (n : Nat) (hn : S n) :
    Calls Try.prog 41 #[.pointer (some ⟨n, 0, none⟩)] w fun e w' => e = .returned (.tuple #[]) ∧ ∃ N' K' A, ExD S P w N K n w' N' K' A := by
  obtain ⟨rk, hrk⟩ := h.rank
  have E0 : Ex S P w N K n w N K (some n) .nil := ⟨hN, Mod.refl _ _, h, .inl ⟨rfl, rfl⟩, fun _ => ⟨rfl, rfl⟩, (fun v hv => by injection hv with hv; subst hv; exact ⟨hn, .refl _⟩), fun c hc _ => ⟨hc, fun _ _ => rfl⟩⟩
  have HE0 := Lib.hid E0
  have HRK := Lib.hid hrk
  clear h hN hn E0 hrk
  go_enter Try.func41, Try.ntmps41
  go_wp2_with fail
  go_loopg [2, 3] (rk n + 1) (fun k s2 s3 wr => ∃ (N' : Nat → NdL) (K' : List (ST × Option Nat)) (xo : Option Nat) (Y : ST) (yp xp : Option Addr), s2 = .pointer yp ∧ s3 = .pointer xp ∧ Hid (yp = pA Y.root ∧ xp = pA xo ∧ k = (match xo with | none => 0 | some v => rk v + 1)) ∧ Hid (Ex S P w N K n wr N' K' xo Y))
  case atStart => exact ⟨N, K, some n, .nil, none, some ⟨n, 0, none⟩, rfl, rfl, Lib.hid ⟨rfl, rfl, rfl⟩, HE0⟩
  case round =>
    obtain ⟨N', K', xo, Y, yp, xp, rfl, rfl, HV, HE⟩ := hrel
    cases xo with
    | none =>
      have hxp : xp = none := HV.out.2.1
      subst hxp
      obtain ⟨l, hl⟩ : ∃ l, Y.list = l ++ [n] := by
        rcases HE.out.tail with ⟨-, hh⟩ | hh
        · cases hh
        · exact hh
      have hYn : n ∈ Y.flat := (ST.perm_flat Y).mem_iff.1 (by rw [hl]; simp)
      have hf : Fs S P N' ((Y, none) :: K') := by
        have := HE.out.fs
        cases hY : Y with
        | nil => rw [hY] at hYn; simp [ST.flat] at hYn
        | node a b c d => rw [hY] at this; exact this
      have HF := Lib.hid hf
      have HRI := Lib.hid (rise_any wr S none N' Y hf.ctx HE.out.at_ (hf.laid _ (List.mem_cons_self ..)) (hf.told _ (List.mem_cons_self ..)) n hYn)
      clear hl hYn hf
      go_wp2_with fail
      refine HRI.out.mono ?_
      rintro e w1 ⟨rfl, N2, A, B, R⟩
      have HR := Lib.hid R
      clear R
      go_wp2_with fail
      go_end0
      obtain ⟨A', hD⟩ := HE.out.done HF.out HR.out
      exact ⟨rfl, N2, K', A', hD⟩
    | some v =>
      have hxp : xp = some ⟨v, 0, none⟩ := HV.out.2.1
      subst hxp
      obtain ⟨c, K1, hp, hvc, hf⟩ := HE.out.next
      have HP := Lib.hid hp
      have HVC := Lib.hid hvc
      have HF := Lib.hid hf
      have HRI := Lib.hid (rise_any wr S c.2 N' c.1 hf.ctx HE.out.at_ (hf.laid _ (List.mem_cons_self ..)) (hf.told _ (List.mem_cons_self ..)) v hvc)
      have HVS := Lib.hid ((HE.out.inS v rfl).1)
      clear hp hvc hf
      go_wp2_with fail
      refine HRI.out.mono ?_
      rintro e w1 ⟨rfl, N2, A, B, R⟩
      have HR := Lib.hid R
      have f2 := HF.out.turn R
      have HF2 := Lib.hid f2
      have v2 : w1.cell? ⟨v, 2, none⟩ = some (.pointer (pA (N2 v).n.r)) := by rw [← ptrV_eq]; exact (R.at_ v HVS.out).cell 2
      have fv := (R.at_ v HVS.out).frozen 2
      obtain ⟨M1, hM1⟩ : ∃ M1, M1 = upd (nOf N2) v { nOf N2 v with r := Y.root } := ⟨_, rfl⟩
      have HY1 : Hid (NAt (w1.setCell ⟨v, 2, none⟩ (.pointer yp)) S (withN N2 M1) ∧ Mod S w1 (w1.setCell ⟨v, 2, none⟩ (.pointer yp))) := Lib.hid (by
        rw [hM1, HV.out.1, ← ptrV_eq]
        exact nat_setR (c := v) ⟨R.at_, Mod.refl _ _⟩ HVS.out Y.root)
      have HT : Hid (∀ w2, NAt w2 S (withN N2 M1) → Calls Try.prog 42 #[.pointer (some ⟨v, 0, none⟩)] w2 fun e w' => e = .returned (.tuple #[]) ∧ NAt w' S (hookN N2 v Y) ∧ Mod S w2 w') := Lib.hid (fun w2 h2 => by
        obtain ⟨vA, vB, vY, vK⟩ := f2.two
        obtain ⟨b1, b2⟩ := f2.hook_bounds
        have hl := (f2.laid _ (List.mem_cons_self ..)).1
        have e1 : (withN N2 M1 v).n = ⟨c.2, A.root, Y.root, false⟩ := by
          show M1 v = _
          rw [hM1, upd_same, hl]
        have hcl : Clo S (nOf (withN N2 M1)) := by
          show Clo S M1
          rw [hM1]
          refine Clo.upd f2.clo fun b hb => ?_
          rcases hb with hb | hb | hb
          · exact f2.clo v HVS.out b (.inl hb)
          · exact f2.clo v HVS.out b (.inr (.inl hb))
          · have hYf := ST.root_mem (x := Y) hb
            exact (f2.part b).2 (by rw [allK_cons, allK_append, allK_opt]; exact List.mem_append_right _ (List.mem_append_left _ hYf))
        have k := tell_any w2 S (withN N2 M1) h2 v HVS.out hcl (by rw [e1]; exact ne_root vA) (by rw [e1]; exact ne_root vY) (by rw [e1]; dsimp only; rw [(sOf_with _ _ _).1, (sOf_with _ _ _).1]; exact b1) (by rw [e1]; dsimp only; rw [(sOf_with _ _ _).2, (sOf_with _ _ _).2]; exact b2)
        unfold hookN
        rw [← hM1]
        exact k)
      clear R f2 hM1
      go_wp2_with fail
      clear v2 fv
      refine (HT.out _ HY1.out.1).mono ?_
      rintro e w2 ⟨rfl, h2, m2⟩
      have HE2 := Lib.hid (HE.out.step HP.out HVC.out HF.out HR.out h2 (HY1.out.2.trans' m2))
      have v0 : w2.cell? ⟨v, 0, none⟩ = some (.pointer (pA c.2)) := by
        have k : w2.cell? ⟨v, 0, none⟩ = some (ptrV (nOf (hookN N2 v Y) v).up) := (h2 v HVS.out).cell 0
        have hl := (HF2.out.laid _ (List.mem_cons_self ..)).1
        rw [hook_n, hl] at k
        rw [k, ptrV_eq]
      clear h2 m2
      obtain ⟨up, hup⟩ : ∃ q, q = pA c.2 := ⟨_, rfl⟩
      rw [← hup] at v0
      have HUP := Lib.hid hup
      clear hup
      go_wp2_with fail
      go_roundg (match c.2 with | none => 0 | some v => rk v + 1)
      case rel => exact ⟨_, _, c.2, _, _, _, rfl, rfl, Lib.hid ⟨rfl, HUP.out, rfl⟩, HE2⟩
      case measure =>
        rw [HV.out.2.2]
        cases hu : c.2 with
        | none => simp
        | some g =>
          have hl := HF.out.line c (List.mem_cons_self ..)
          rw [hu] at hl
          have := line_rank HRK.out hl v ((ST.perm_flat c.1).mem_iff.2 HVC.out)
          simp
          omega

end Go.Proofs.Ytlhkajlkapoabaa
