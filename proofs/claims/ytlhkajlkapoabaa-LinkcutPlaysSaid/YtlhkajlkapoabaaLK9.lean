/-
  Settling and lifting within a chain's splay tree in memory.
-/
import Derived.Test.YtlhkajlkapoabaaLK8
namespace Go.Proofs.Ytlhkajlkapoabaa
open Go.RowKit Go.Maps
set_option linter.unusedVariables false

theorem laid_clo {M : Nat → LN} : ∀ {y : ST} {u : Option Nat}, LaidS M y u → ∀ b ∈ y.flat, ∀ c, (M b).up = some c ∨ (M b).l = some c ∨ (M b).r = some c → c ∈ y.flat ∨ u = some c
  | .nil, _, _, b, hb, _, _ => by simp [ST.flat] at hb
  | .node l a t r, u, ⟨h1, h2, h3⟩, b, hb, c, hc => by
    simp only [ST.flat, List.mem_append, List.mem_cons] at hb ⊢
    rcases hb with hb | rfl | hb
    · rcases laid_clo h2 b hb c hc with h | h
      · exact .inl (.inl h)
      · injection h with h; exact .inl (.inr (.inl h.symm))
    · rw [h1] at hc
      rcases hc with hc | hc | hc
      · exact .inr hc
      · exact .inl (.inl (ST.root_mem hc))
      · exact .inl (.inr (.inr (ST.root_mem hc)))
    · rcases laid_clo h3 b hb c hc with h | h
      · exact .inl (.inr (.inr h))
      · injection h with h; exact .inl (.inr (.inl h.symm))

/-- The chain x of the nodes N, which hangs on u. -/
structure Ctx (S : Nat → Prop) (u : Option Nat) (N : Nat → NdL) (x : ST) : Prop where
  inS : ∀ b ∈ x.flat, S b
  nodup : x.flat.Nodup
  clo : Clo S (nOf N)
  uS : ∀ g, u = some g → S g
  out : ∀ g, u = some g → g ∉ x.flat ∧ ∀ p ∈ x.flat, (N g).n.l ≠ some p ∧ (N g).n.r ≠ some p
  bs : sumE (eds N x.flat) < 2 ^ 53
  bk : cntE (eds N x.flat) < 2 ^ 53

/-- From N to N' the chain has turned its splay tree alone. -/
structure Rt (S : Nat → Prop) (w0 : World) (u : Option Nat) (N : Nat → NdL) (x : ST) (w : World) (N' : Nat → NdL) (y : ST) : Prop where
  at_ : NAt w S N'
  mod : Mod S w0 w
  laid : LaidS (nOf N') y u
  told : ToldS N' y
  list : y.list = x.list
  perm : y.flat.Perm x.flat
  off : ∀ b, b ∉ x.flat → N' b = N b
  same : ∀ b, (N' b).e = (N b).e ∧ (N' b).d = (N b).d

section

variable {S : Nat → Prop} {w0 w : World} {u : Option Nat} {N N' : Nat → NdL} {x y : ST}

theorem Rt.clo (R : Rt S w0 u N x w N' y) (C : Ctx S u N x) : Clo S (nOf N') := fun b hb c hc => by
  by_cases hx : b ∈ x.flat
  · rcases laid_clo R.laid b (R.perm.mem_iff.2 hx) c hc with h | h
    · exact C.inS c (R.perm.mem_iff.1 h)
    · exact C.uS c h
  · have e : nOf N' b = nOf N b := by unfold nOf; rw [R.off b hx]
    rw [e] at hc
    exact C.clo b hb c hc

theorem Rt.nodup (R : Rt S w0 u N x w N' y) (C : Ctx S u N x) : y.flat.Nodup := R.perm.nodup_iff.2 C.nodup

theorem Rt.out (R : Rt S w0 u N x w N' y) (C : Ctx S u N x) {p : Nat} (hp : p ∈ x.flat) : Out (nOf N') u p := fun g hg => by
  obtain ⟨h1, h2⟩ := C.out g hg
  have e : nOf N' g = nOf N g := by unfold nOf; rw [R.off g h1]
  rw [e]
  exact h2 p hp

theorem withN_eta {M : Nat → LN} {b : Nat} (h : M b = nOf N' b) : withN N' M b = N' b := by
  unfold withN
  rw [h]
  rfl

theorem tellAt_e (N : Nat → NdL) (a b : Nat) : (tellAt N a b).e = (N b).e ∧ (tellAt N a b).d = (N b).d := by
  by_cases h : b = a
  · subst h; unfold tellAt; rw [updL_same]; exact ⟨rfl, rfl⟩
  · rw [tellAt_ne _ h]; exact ⟨rfl, rfl⟩

theorem settle_rt {F : List Fr} {l r : ST} {a : Nat} {t : Bool} (C : Ctx S u N x) (R : Rt S w0 u N x w N' (fillF F (.node l a t r))) :
    Calls Try.prog 46 #[.pointer (some ⟨a, 0, none⟩)] w fun e w' => e = .returned (.tuple #[]) ∧ ∃ N'', Rt S w0 u N x w' N'' (fillF F (ST.node l a t r).set) := by
  have hax : a ∈ x.flat := R.perm.mem_iff.1 ((perm_fill F _).mem_iff.2 (by simp [ST.flat]))
  have hS := C.inS a hax
  have hc := R.clo C
  refine (settle_any w S N' R.at_ a hS (fun c h => hc a hS c (.inr (.inl h))) (fun c h => hc a hS c (.inr (.inr h)))).mono ?_
  rintro e w1 ⟨rfl, h1, m1⟩
  obtain ⟨hs, hcc⟩ := (laid_fill F _).1 R.laid
  refine ⟨rfl, _, h1, R.mod.trans' m1, set_in R.laid (R.nodup C), ?_, ?_, ?_, ?_, ?_⟩
  · obtain ⟨t1, t2⟩ := (told_fill F _).1 R.told
    exact (told_fill F _).2 ⟨told_far (told_set t1) fun b _ => ⟨rfl, rfl, rfl, rfl⟩, toldC_far (toldC_perm t2 (ST.perm_set _).symm) (fun b _ => ⟨rfl, rfl, rfl, rfl⟩) fun b => rfl⟩
  · exact (list_fill F (ST.list_set _)).trans R.list
  · exact (((perm_fill F _).trans ((ST.perm_set _).append_right _)).trans (perm_fill F _).symm).trans R.perm
  · intro b hb
    have hb' : b ∉ l.flat ++ a :: r.flat := fun hm => hb (R.perm.mem_iff.1 ((perm_fill F _).mem_iff.2 (List.mem_append_left _ hm)))
    rw [withN_eta (setN_far hs hb')]
    exact R.off b hb
  · intro b
    exact R.same b


theorem lift_rt_left {F : List Fr} {A B s : ST} {n p : Nat} (C : Ctx S u N x) (R : Rt S w0 u N x w N' (fillF F (.node (.node A n false B) p false s))) :
    Calls Try.prog 53 #[.pointer (some ⟨n, 0, none⟩)] w fun e w' => e = .returned (.tuple #[]) ∧ ∃ N'', Rt S w0 u N x w' N'' (fillF F (.node A n false (.node B p false s))) := by
  have hin : ∀ b, b ∈ (ST.node (.node A n false B) p false s).flat ∨ b ∈ flatC F → b ∈ x.flat := fun b hb => R.perm.mem_iff.1 ((perm_fill F _).mem_iff.2 (List.mem_append.2 hb))
  have hnx : n ∈ x.flat := hin n (.inl (by simp [ST.flat]))
  have hpx : p ∈ x.flat := hin p (.inl (by simp [ST.flat]))
  have hc := R.clo C
  obtain ⟨hs, hcc⟩ := (laid_fill F _).1 R.laid
  obtain ⟨n1, n2, n3⟩ := fill_parts (R.nodup C)
  obtain ⟨nl, ns, pl, ps, lr⟩ := parts (l := .node A n false B) (r := s) n1
  obtain ⟨nA, nB, nAn, nBn, AB⟩ := parts (l := A) (r := B) nl
  simp only [ST.flat, List.mem_append, List.mem_cons, not_or] at pl lr
  have hnp : n ≠ p := fun e => pl.2.1 e.symm
  have hns : n ∉ s.flat := lr n (.inr (.inl rfl))
  have pA' : p ∉ A.flat := pl.1
  have pB' : p ∉ B.flat := pl.2.2
  have hpp : nOf N' p = _ := hs.1
  have hnn : nOf N' n = _ := hs.2.1.1
  have hside : sideN (nOf N') n = (0, true) := by
    unfold sideN
    rw [show (nOf N' n).up = some p by rw [hnn]]
    dsimp only
    rw [hpp]
    dsimp only
    rw [if_pos (show (ST.node A n false B).root = some n from rfl)]
  have htop : ∀ b, b = n ∨ b = p → topF F u ≠ some b := fun b hb e => by
    cases F with
    | nil =>
      have hu : u = some b := e
      obtain ⟨g1, -⟩ := C.out b hu
      rcases hb with rfl | rfl
      · exact g1 hnx
      · exact g1 hpx
    | cons f F =>
      injection e with e
      refine n3 f.a (by simp [flatC]) ?_
      rw [e]
      rcases hb with rfl | rfl <;> simp [ST.flat]
  obtain ⟨t1, t2⟩ := (told_fill F _).1 R.told
  obtain ⟨-, ⟨-, tA0, tB0⟩, ts0⟩ := t1
  have keyS : (N' n).e.stepS + (N' p).e.stepS + sumE (eds N' A.flat) + sumE (eds N' B.flat) + sumE (eds N' s.flat) < 2 ^ 53 := by
    have h1 := sumE_perm ((R.perm.symm.trans (perm_fill F _)).map fun b => (N' b).e)
    have h2 : x.flat.map (fun b => (N' b).e) = eds N x.flat := List.map_congr_left fun b _ => (R.same b).1
    rw [h2, List.map_append, sumE_append] at h1
    have h3 : sumE ((ST.node (.node A n false B) p false s).flat.map fun b => (N' b).e) = (N' n).e.stepS + (N' p).e.stepS + sumE (eds N' A.flat) + sumE (eds N' B.flat) + sumE (eds N' s.flat) := by
      simp only [ST.flat, List.map_append, List.map_cons, sumE_append, sumE_cons]
      unfold eds
      omega
    have := C.bs
    omega
  have keyK : (N' n).e.stepK + (N' p).e.stepK + cntE (eds N' A.flat) + cntE (eds N' B.flat) + cntE (eds N' s.flat) < 2 ^ 53 := by
    have h1 := cntE_perm ((R.perm.symm.trans (perm_fill F _)).map fun b => (N' b).e)
    have h2 : x.flat.map (fun b => (N' b).e) = eds N x.flat := List.map_congr_left fun b _ => (R.same b).1
    rw [h2, List.map_append, cntE_append] at h1
    have h3 : cntE ((ST.node (.node A n false B) p false s).flat.map fun b => (N' b).e) = (N' n).e.stepK + (N' p).e.stepK + cntE (eds N' A.flat) + cntE (eds N' B.flat) + cntE (eds N' s.flat) := by
      simp only [ST.flat, List.map_append, List.map_cons, cntE_append, cntE_cons]
      unfold eds
      omega
    have := C.bk
    omega
  have hN : (N' n).n = nOf N' n := rfl
  have hP : (N' p).n = nOf N' p := rfl
  refine (lift_any0 w S N' R.at_ hc n p (C.inS n hnx) (by rw [hN, hnn]) hside hnp (by rw [hN, hnn]; exact ne_root nBn) (by rw [hN, hnn]; exact ne_root pB') (by rw [hN, hnn]; exact ne_root nAn) (by rw [hP, hpp]; exact ne_root ps) (by rw [hP, hpp]; exact htop n (.inl rfl)) (by rw [hP, hpp]; exact htop p (.inr rfl)) (by rw [hN, hnn]; exact ne_root pA')
    (by rw [hN, hP, hnn, hpp]; dsimp only; rw [(told_root tA0).1, (told_root tB0).1, (told_root ts0).1]; omega) (by rw [hN, hP, hnn, hpp]; dsimp only; rw [(told_root tA0).2, (told_root tB0).2, (told_root ts0).2]; omega)).mono ?_
  rintro e w1 ⟨rfl, h1, m1⟩
  have hl5 := lift_in_left R.laid (R.nodup C) (R.out C hpx)
  obtain ⟨N5, hN5⟩ : ∃ N5, N5 = withN N' (liftN (hangX (nOf N') p n) n p false) := ⟨_, rfl⟩
  have hn5 : nOf N5 = liftN (hangX (nOf N') p n) n p false := by rw [hN5]; rfl
  have halk : ∀ b, Alk (N5 b) (N' b) := fun b => by rw [hN5]; exact ⟨rfl, rfl, rfl, rfl⟩
  have hed : ∀ b, (N5 b).e = (N' b).e ∧ (N5 b).d = (N' b).d := fun b => by rw [hN5]; exact ⟨rfl, rfl⟩
  have hoff5 : ∀ b, b ∉ x.flat → N5 b = N' b := fun b hb => by
    rw [hN5]
    have hb1 : b ≠ n := fun e => hb (e ▸ hnx)
    have hb2 : b ≠ p := fun e => hb (e ▸ hpx)
    obtain ⟨hc1, hf⟩ := hang_in (n := n) hcc (by rw [hpp]) n2 (fun hm => n3 p hm (by simp [ST.flat])) (R.out C hpx)
    have hf' : ∀ c, c ∉ x.flat → hangX (nOf N') p n c = nOf N' c := fun c hc => hf c (fun hm => hc (hin c (.inr hm)))
    have hfn : hangX (nOf N') p n n = nOf N' n := hf n (fun hm => n3 n hm (by simp [ST.flat]))
    refine withN_eta ((liftN_far hb1 hb2 ?_).trans (hf' b hb))
    rw [hfn, hnn]
    exact ne_root fun hm => hb (hin b (.inl (by simp [ST.flat, hm])))
  rw [← hn5] at hl5
  rw [← hN5] at h1
  obtain ⟨n5n, n5A, n5p, n5B, n5s⟩ := (laid_fill F _).1 hl5 |>.1
  refine ⟨rfl, _, h1, R.mod.trans' m1, by rw [nOf_tellAt, nOf_tellAt]; exact hl5, ?_, (list_fill F (lift_left_list A B s n p)).trans R.list, ?_, ?_, ?_⟩
  · have tA : ToldS N5 A := told_far tA0 fun b _ => halk b
    have tB : ToldS N5 B := told_far tB0 fun b _ => halk b
    have ts : ToldS N5 s := told_far ts0 fun b _ => halk b
    refine (told_fill F _).2 ⟨?_, ?_⟩
    rotate_left
    · rw [lift_left_flat]
      refine toldC_far t2 (fun b hb => ?_) (fun b => ((tellAt_e _ _ b).1.trans (tellAt_e _ _ b).1).trans (hed b).1)
      have hb1 : b ≠ n := fun e => n3 b hb (by rw [e]; simp [ST.flat])
      have hb2 : b ≠ p := fun e => n3 b hb (by rw [e]; simp [ST.flat])
      rw [tellAt_ne _ hb1, tellAt_ne _ hb2]
      exact halk b
    refine told_tell (l := A) (r := .node B p false s) (told_far tA fun b hb => ?_) (told_tell (l := B) (r := s) tB ts ?_ ?_ pB' ps) ?_ ?_ nAn ?_
    · rw [tellAt_ne _ (show b ≠ p from fun e => pA' (e ▸ hb))]
      exact ⟨rfl, rfl, rfl, rfl⟩
    · show (nOf N5 p).l = B.root
      rw [n5p]
    · show (nOf N5 p).r = s.root
      rw [n5p]
    · rw [tellAt_ne _ hnp]
      show (nOf N5 n).l = A.root
      rw [n5n]
    · rw [tellAt_ne _ hnp]
      show (nOf N5 n).r = some p
      rw [n5n]
      rfl
    · simp only [ST.flat, List.mem_append, List.mem_cons, not_or]
      exact ⟨nBn, hnp, hns⟩
  · refine (((perm_fill F _).trans ?_).trans (perm_fill F _).symm).trans R.perm
    rw [lift_left_flat]
  · intro b hb
    rw [tellAt_ne _ (show b ≠ n from fun e => hb (e ▸ hnx)), tellAt_ne _ (show b ≠ p from fun e => hb (e ▸ hpx)), hoff5 b hb]
    exact R.off b hb
  · intro b
    have e1 := tellAt_e (tellAt N5 p) n b
    have e2 := tellAt_e N5 p b
    exact ⟨((e1.1.trans e2.1).trans (hed b).1).trans (R.same b).1, ((e1.2.trans e2.2).trans (hed b).2).trans (R.same b).2⟩


theorem lift_rt_right {F : List Fr} {A B s : ST} {n p : Nat} (C : Ctx S u N x) (R : Rt S w0 u N x w N' (fillF F (.node s p false (.node A n false B)))) :
    Calls Try.prog 53 #[.pointer (some ⟨n, 0, none⟩)] w fun e w' => e = .returned (.tuple #[]) ∧ ∃ N'', Rt S w0 u N x w' N'' (fillF F (.node (.node s p false A) n false B)) := by
  have hin : ∀ b, b ∈ (ST.node s p false (.node A n false B)).flat ∨ b ∈ flatC F → b ∈ x.flat := fun b hb => R.perm.mem_iff.1 ((perm_fill F _).mem_iff.2 (List.mem_append.2 hb))
  have hnx : n ∈ x.flat := hin n (.inl (by simp [ST.flat]))
  have hpx : p ∈ x.flat := hin p (.inl (by simp [ST.flat]))
  have hc := R.clo C
  obtain ⟨hs, hcc⟩ := (laid_fill F _).1 R.laid
  obtain ⟨n1, n2, n3⟩ := fill_parts (R.nodup C)
  obtain ⟨ns, nl, ps, pl, lr⟩ := parts (l := s) (r := .node A n false B) n1
  obtain ⟨nA, nB, nAn, nBn, AB⟩ := parts (l := A) (r := B) nl
  simp only [ST.flat, List.mem_append, List.mem_cons, not_or] at pl lr
  have hnp : n ≠ p := fun e => pl.2.1 e.symm
  have hns : n ∉ s.flat := fun hm => (lr n hm).2.1 rfl
  have pA' : p ∉ A.flat := pl.1
  have pB' : p ∉ B.flat := pl.2.2
  have hpp : nOf N' p = _ := hs.1
  have hnn : nOf N' n = _ := hs.2.2.1
  have hside : sideN (nOf N') n = (1, true) := by
    unfold sideN
    rw [show (nOf N' n).up = some p by rw [hnn]]
    dsimp only
    rw [hpp]
    dsimp only
    rw [if_neg (ne_root hns), if_pos (show (ST.node A n false B).root = some n from rfl)]
  have htop : ∀ b, b = n ∨ b = p → topF F u ≠ some b := fun b hb e => by
    cases F with
    | nil =>
      have hu : u = some b := e
      obtain ⟨g1, -⟩ := C.out b hu
      rcases hb with rfl | rfl
      · exact g1 hnx
      · exact g1 hpx
    | cons f F =>
      injection e with e
      refine n3 f.a (by simp [flatC]) ?_
      rw [e]
      rcases hb with rfl | rfl <;> simp [ST.flat]
  obtain ⟨t1, t2⟩ := (told_fill F _).1 R.told
  obtain ⟨-, ts0, ⟨-, tA0, tB0⟩⟩ := t1
  have keyS : (N' n).e.stepS + (N' p).e.stepS + sumE (eds N' A.flat) + sumE (eds N' B.flat) + sumE (eds N' s.flat) < 2 ^ 53 := by
    have h1 := sumE_perm ((R.perm.symm.trans (perm_fill F _)).map fun b => (N' b).e)
    have h2 : x.flat.map (fun b => (N' b).e) = eds N x.flat := List.map_congr_left fun b _ => (R.same b).1
    rw [h2, List.map_append, sumE_append] at h1
    have h3 : sumE ((ST.node s p false (.node A n false B)).flat.map fun b => (N' b).e) = (N' n).e.stepS + (N' p).e.stepS + sumE (eds N' A.flat) + sumE (eds N' B.flat) + sumE (eds N' s.flat) := by
      simp only [ST.flat, List.map_append, List.map_cons, sumE_append, sumE_cons]
      unfold eds
      omega
    have := C.bs
    omega
  have keyK : (N' n).e.stepK + (N' p).e.stepK + cntE (eds N' A.flat) + cntE (eds N' B.flat) + cntE (eds N' s.flat) < 2 ^ 53 := by
    have h1 := cntE_perm ((R.perm.symm.trans (perm_fill F _)).map fun b => (N' b).e)
    have h2 : x.flat.map (fun b => (N' b).e) = eds N x.flat := List.map_congr_left fun b _ => (R.same b).1
    rw [h2, List.map_append, cntE_append] at h1
    have h3 : cntE ((ST.node s p false (.node A n false B)).flat.map fun b => (N' b).e) = (N' n).e.stepK + (N' p).e.stepK + cntE (eds N' A.flat) + cntE (eds N' B.flat) + cntE (eds N' s.flat) := by
      simp only [ST.flat, List.map_append, List.map_cons, cntE_append, cntE_cons]
      unfold eds
      omega
    have := C.bk
    omega
  have hN : (N' n).n = nOf N' n := rfl
  have hP : (N' p).n = nOf N' p := rfl
  refine (lift_any1 w S N' R.at_ hc n p (C.inS n hnx) (by rw [hN, hnn]) hside hnp (by rw [hN, hnn]; exact ne_root nAn) (by rw [hN, hnn]; exact ne_root pA') (by rw [hN, hnn]; exact ne_root nBn) (by rw [hP, hpp]; exact ne_root ps) (by rw [hP, hpp]; exact htop n (.inl rfl)) (by rw [hP, hpp]; exact htop p (.inr rfl)) (by rw [hN, hnn]; exact ne_root pB')
    (by rw [hN, hP, hnn, hpp]; dsimp only; rw [(told_root tA0).1, (told_root tB0).1, (told_root ts0).1]; omega) (by rw [hN, hP, hnn, hpp]; dsimp only; rw [(told_root tA0).2, (told_root tB0).2, (told_root ts0).2]; omega)).mono ?_
  rintro e w1 ⟨rfl, h1, m1⟩
  have hl5 := lift_in_right R.laid (R.nodup C) (R.out C hpx)
  obtain ⟨N5, hN5⟩ : ∃ N5, N5 = withN N' (liftN (hangX (nOf N') p n) n p true) := ⟨_, rfl⟩
  have hn5 : nOf N5 = liftN (hangX (nOf N') p n) n p true := by rw [hN5]; rfl
  have halk : ∀ b, Alk (N5 b) (N' b) := fun b => by rw [hN5]; exact ⟨rfl, rfl, rfl, rfl⟩
  have hed : ∀ b, (N5 b).e = (N' b).e ∧ (N5 b).d = (N' b).d := fun b => by rw [hN5]; exact ⟨rfl, rfl⟩
  have hoff5 : ∀ b, b ∉ x.flat → N5 b = N' b := fun b hb => by
    rw [hN5]
    have hb1 : b ≠ n := fun e => hb (e ▸ hnx)
    have hb2 : b ≠ p := fun e => hb (e ▸ hpx)
    obtain ⟨hc1, hf⟩ := hang_in (n := n) hcc (by rw [hpp]) n2 (fun hm => n3 p hm (by simp [ST.flat])) (R.out C hpx)
    have hf' : ∀ c, c ∉ x.flat → hangX (nOf N') p n c = nOf N' c := fun c hc => hf c (fun hm => hc (hin c (.inr hm)))
    have hfn : hangX (nOf N') p n n = nOf N' n := hf n (fun hm => n3 n hm (by simp [ST.flat]))
    refine withN_eta ((liftN_far hb1 hb2 ?_).trans (hf' b hb))
    rw [hfn, hnn]
    exact ne_root fun hm => hb (hin b (.inl (by simp [ST.flat, hm])))
  rw [← hn5] at hl5
  rw [← hN5] at h1
  obtain ⟨n5n, ⟨n5p, n5s, n5A⟩, n5B⟩ := (laid_fill F _).1 hl5 |>.1
  refine ⟨rfl, _, h1, R.mod.trans' m1, by rw [nOf_tellAt, nOf_tellAt]; exact hl5, ?_, (list_fill F (lift_right_list A B s n p)).trans R.list, ?_, ?_, ?_⟩
  · have tA : ToldS N5 A := told_far tA0 fun b _ => halk b
    have tB : ToldS N5 B := told_far tB0 fun b _ => halk b
    have ts : ToldS N5 s := told_far ts0 fun b _ => halk b
    refine (told_fill F _).2 ⟨?_, ?_⟩
    rotate_left
    · rw [lift_right_flat]
      refine toldC_far t2 (fun b hb => ?_) (fun b => ((tellAt_e _ _ b).1.trans (tellAt_e _ _ b).1).trans (hed b).1)
      have hb1 : b ≠ n := fun e => n3 b hb (by rw [e]; simp [ST.flat])
      have hb2 : b ≠ p := fun e => n3 b hb (by rw [e]; simp [ST.flat])
      rw [tellAt_ne _ hb1, tellAt_ne _ hb2]
      exact halk b
    refine told_tell (l := .node s p false A) (r := B) (told_tell (l := s) (r := A) ts tA ?_ ?_ ps pA') (told_far tB fun b hb => ?_) ?_ ?_ ?_ nBn
    · show (nOf N5 p).l = s.root
      rw [n5p]
    · show (nOf N5 p).r = A.root
      rw [n5p]
    · rw [tellAt_ne _ (show b ≠ p from fun e => pB' (e ▸ hb))]
      exact ⟨rfl, rfl, rfl, rfl⟩
    · rw [tellAt_ne _ hnp]
      show (nOf N5 n).l = some p
      rw [n5n]
      rfl
    · rw [tellAt_ne _ hnp]
      show (nOf N5 n).r = B.root
      rw [n5n]
    · simp only [ST.flat, List.mem_append, List.mem_cons, not_or]
      exact ⟨hns, hnp, nAn⟩
  · refine (((perm_fill F _).trans ?_).trans (perm_fill F _).symm).trans R.perm
    rw [lift_right_flat]
  · intro b hb
    rw [tellAt_ne _ (show b ≠ n from fun e => hb (e ▸ hnx)), tellAt_ne _ (show b ≠ p from fun e => hb (e ▸ hpx)), hoff5 b hb]
    exact R.off b hb
  · intro b
    have e1 := tellAt_e (tellAt N5 p) n b
    have e2 := tellAt_e N5 p b
    exact ⟨((e1.1.trans e2.1).trans (hed b).1).trans (R.same b).1, ((e1.2.trans e2.2).trans (hed b).2).trans (R.same b).2⟩


end

end Go.Proofs.Ytlhkajlkapoabaa
