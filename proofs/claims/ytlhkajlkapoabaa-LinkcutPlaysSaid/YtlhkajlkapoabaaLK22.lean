/-
  A node comes to a forest of chains, or leaves it; expose at a node that has not told of itself yet.
-/
import Derived.Test.YtlhkajlkapoabaaLK21
namespace Go.Proofs.Ytlhkajlkapoabaa
open Go.RowKit Go.Maps
set_option linter.unusedVariables false

/-- A node as it is made, and what it is when it has told of itself. -/
def madeL (e : Eg) : NdL := ⟨⟨none, none, none, false⟩, 0, e, Eg.zero, 0, 0⟩

def toldL (e : Eg) (d : Int) : NdL := ⟨⟨none, none, none, false⟩, d, e, e, e.stepS, e.stepK⟩

theorem made_vertex : madeL Eg.zero = toldL Eg.zero 0 := by
  unfold madeL toldL Eg.stepS Eg.stepK
  rw [if_pos rfl, if_pos rfl]

theorem told_one {N : Nat → NdL} {a : Nat} {e : Eg} {d : Int} {t : Bool} (h : N a = toldL e d) : ToldS N (.node .nil a t .nil) := by
  refine ⟨?_, trivial, trivial⟩
  show TD (N a) [(N a).e]
  rw [h]
  refine ⟨⟨List.mem_singleton.2 rfl, fun x hx => ?_⟩, ?_, ?_⟩
  · rw [List.mem_singleton.1 hx]
    show e.above e = false
    exact (above_no _ _).2 (by omega)
  · show e.stepS = sumE [e]
    rw [sumE_cons]; rfl
  · show e.stepK = cntE [e]
    rw [cntE_cons]; rfl

theorem Fs.add {S : Nat → Prop} {P : Nat → Option Nat} {N : Nat → NdL} {K : List (ST × Option Nat)} (h : Fs S P N K) {a : Nat} (ha : ¬ S a) (e : Eg) (d : Int) (hs : sumE (eds N (allK K)) + e.stepS < 2 ^ 53) (hk : cntE (eds N (allK K)) + e.stepK < 2 ^ 53) :
    Fs (fun k => S k ∨ k = a) (setP P a none) (updL N a (toldL e d)) ((.node .nil a false .nil, none) :: K) := by
  have hne : ∀ b, b ∈ allK K → b ≠ a := fun b hb e => ha (e ▸ (h.part b).2 hb)
  have hc : ∀ c ∈ K, ∀ b ∈ c.1.flat, b ≠ a := fun c hc b hb => hne b (mem_allK.2 ⟨c, hc, hb⟩)
  have hN : ∀ b, b ≠ a → updL N a (toldL e d) b = N b := fun b hb => updL_ne N _ hb
  have hal : allK ((ST.node .nil a false .nil, (none : Option Nat)) :: K) = a :: allK K := rfl
  have hE : eds (updL N a (toldL e d)) (a :: allK K) = e :: eds N (allK K) := by
    show (updL N a (toldL e d) a).e :: eds (updL N a (toldL e d)) (allK K) = _
    rw [updL_same, eds_far (N := N) fun b hb => by rw [hN b (hne b hb)]]
    rfl
  refine ⟨?_, ?_, ?_, ?_, ?_, ?_, ?_, root_rank h.rank, ?_, ?_⟩
  · intro c hc
    rcases List.mem_cons.1 hc with rfl | hc
    · intro e; cases e
    · exact h.full c hc
  · intro b
    rw [hal, List.mem_cons, h.part b]
    exact Or.comm
  · rw [hal]
    exact List.nodup_cons.2 ⟨fun hm => hne a hm rfl, h.nodup⟩
  · intro c hcK
    rcases List.mem_cons.1 hcK with rfl | hcK
    · exact ⟨by unfold nOf; rw [updL_same]; rfl, trivial, trivial⟩
    · exact laidS_far (h.laid c hcK) fun b hb => by unfold nOf; rw [hN b (hc c hcK b hb)]
  · intro c hcK
    rcases List.mem_cons.1 hcK with rfl | hcK
    · exact told_one (updL_same N a _)
    · exact told_far (h.told c hcK) fun b hb => by rw [hN b (hc c hcK b hb)]; exact ⟨rfl, rfl, rfl, rfl⟩
  · intro c hcK g hg
    rcases List.mem_cons.1 hcK with rfl | hcK
    · cases hg
    · exact .inl (h.hang c hcK g hg)
  · intro c hcK
    rcases List.mem_cons.1 hcK with rfl | hcK
    · show Line _ none [a]
      exact ⟨setP_same, trivial⟩
    · exact line_congr (h.line c hcK) fun b hb => setP_ne (hc c hcK b ((ST.perm_flat c.1).mem_iff.1 hb))
  · rw [hal, hE, sumE_cons]; omega
  · rw [hal, hE, cntE_cons]; omega

/-- A node that stands alone goes. -/
theorem Fs.drop {S : Nat → Prop} {P : Nat → Option Nat} {N : Nat → NdL} {K : List (ST × Option Nat)} {a : Nat} {t : Bool} (h : Fs S P N ((.node .nil a t .nil, none) :: K)) (hno : ∀ c ∈ K, c.2 ≠ some a) : Fs (fun k => S k ∧ k ≠ a) P N K := by
  have hal : allK ((ST.node .nil a t .nil, (none : Option Nat)) :: K) = a :: allK K := rfl
  have hnd := h.nodup
  have hb := h.bs
  have hk := h.bk
  rw [hal] at hnd hb hk
  have hpt := h.part
  rw [hal] at hpt
  obtain ⟨n1, n2⟩ := List.nodup_cons.1 hnd
  refine ⟨fun c hc => h.full c (List.mem_cons_of_mem _ hc), fun b => ?_, n2, fun c hc => h.laid c (List.mem_cons_of_mem _ hc), fun c hc => h.told c (List.mem_cons_of_mem _ hc), fun c hc g hg => ⟨h.hang c (List.mem_cons_of_mem _ hc) g hg, fun e => hno c hc (by rw [hg, e])⟩, fun c hc => h.line c (List.mem_cons_of_mem _ hc), h.rank, ?_, ?_⟩
  · rw [hpt b, List.mem_cons]
    constructor
    · rintro ⟨e | hm, hne⟩
      · exact absurd e hne
      · exact hm
    · exact fun hm => ⟨.inr hm, fun e => n1 (e ▸ hm)⟩
  · have e : eds N (a :: allK K) = (N a).e :: eds N (allK K) := rfl
    rw [e, sumE_cons] at hb
    omega
  · have e : eds N (a :: allK K) = (N a).e :: eds N (allK K) := rfl
    rw [e, cntE_cons] at hk
    omega

set_option maxRecDepth 100000 in
set_option maxHeartbeats 4000000 in
theorem rise_new (w : World) (S : Nat → Prop) (N : Nat → NdL) (hN : NAt w S N) (hc : Clo S (nOf N)) (n : Nat) (hn : S n) (h0 : (N n).n = ⟨none, none, none, false⟩) :
    Calls Try.prog 47 #[.pointer (some ⟨n, 0, none⟩)] w fun e w' => e = .returned (.tuple #[]) ∧ NAt w' S N ∧ Mod S w w' := by
  have hside := side_any w S N hN n hn hc
  have e : sideN (nOf N) n = (0, false) := by unfold sideN nOf; rw [h0]
  rw [e] at hside
  have hset := settle_any w S N hN n hn (fun c h => hc n hn c (.inr (.inl h))) (fun c h => hc n hn c (.inr (.inr h)))
  have e2 : withN N (setN (nOf N) n) = N := by
    unfold setN
    rw [if_neg (by unfold nOf; rw [h0]; decide)]
    rfl
  rw [e2] at hset
  have HSD := Lib.hid hside
  have HST := Lib.hid hset
  clear hN hc hn h0 hside e hset e2
  go_enter Try.func47, Try.ntmps47
  go_wp2_with fail
  go_loopg [2] 0 (fun k s2 wr => wr = w)
  case atStart => rfl
  case round =>
    subst hrel
    go_wp2_with fail
    refine HSD.out.mono ?_
    rintro e w1 ⟨rfl, hw⟩
    subst w1
    go_wp2_with fail
    refine HST.out.mono ?_
    rintro e w1 ⟨rfl, h1, m1⟩
    have H1 := Lib.hid h1
    have M1 := Lib.hid m1
    clear h1 m1
    go_wp2_with fail
    refine bodyPost_ret (results_none rfl _ _ _) rfl ?_
    exact ⟨rfl, H1.out, M1.out⟩

set_option maxRecDepth 100000 in
set_option maxHeartbeats 8000000 in
theorem expose_new (w : World) (S : Nat → Prop) (P : Nat → Option Nat) (N : Nat → NdL) (K : List (ST × Option Nat)) (n : Nat) (e : Eg) (d : Int) (y : NdL) (h : Fs S P N ((.node .nil n false .nil, none) :: K)) (hn : N n = toldL e d) (hy : y.n = ⟨none, none, none, false⟩ ∧ y.e = e ∧ y.d = d) (hN : NAt w S (updL N n y)) :
    Calls Try.prog 41 #[.pointer (some ⟨n, 0, none⟩)] w fun e w' => e = .returned (.tuple #[]) ∧ ∃ N' K' A, ExD S P w N ((.node .nil n false .nil, none) :: K) n w' N' K' A := by
  have hS : S n := (h.part n).2 (by rw [allK_cons]; simp [ST.flat])
  have e0 : (updL N n y n).n = ⟨none, none, none, false⟩ := by rw [updL_same]; exact hy.1
  have hno : nOf (updL N n y) = nOf N := by
    funext b
    unfold nOf
    by_cases hb : b = n
    · subst hb; rw [updL_same, hn, hy.1]; rfl
    · rw [updL_ne N _ hb]
  have hcl : Clo S (nOf (updL N n y)) := by rw [hno]; exact h.clo
  have htell : tellAt (updL N n y) n = N := by
    funext b
    by_cases hb : b = n
    · subst hb
      unfold tellAt
      rw [updL_same, updL_same, hn]
      obtain ⟨yn, yd, ye, ym, ys, yk⟩ := y
      obtain ⟨rfl, rfl, rfl⟩ := hy
      rfl
    · rw [tellAt_ne _ hb, updL_ne N _ hb]
  have hR1 := fun w hw => rise_new w S (updL N n y) hw hcl n hS e0
  have hR2 := fun w hw => rise_new w S N hw h.clo n hS (by rw [hn]; rfl)
  have hbS : e.stepS + 0 + 0 < 2 ^ 53 := by
    have := h.bs
    rw [allK_cons] at this
    have e2 : eds N ((ST.node .nil n false .nil).flat ++ allK K) = (N n).e :: eds N (allK K) := rfl
    have this : sumE (eds N ((ST.node .nil n false .nil).flat ++ allK K)) < 2 ^ 53 := this
    rw [e2, sumE_cons, hn] at this
    have this : e.stepS + sumE (eds N (allK K)) < 2 ^ 53 := this
    omega
  have hbK : e.stepK + 0 + 0 < 2 ^ 53 := by
    have : e.stepK ≤ 1 := by unfold Eg.stepK; split <;> omega
    omega
  have hT : ∀ w, NAt w S (updL N n y) → Calls Try.prog 42 #[.pointer (some ⟨n, 0, none⟩)] w fun e w' => e = .returned (.tuple #[]) ∧ NAt w' S N ∧ Mod S w w' := fun w hw => by
    have k := tell_any w S (updL N n y) hw n hS hcl (by rw [e0]; intro e; cases e) (by rw [e0]; intro e; cases e) (by rw [e0, updL_same, hy.2.1]; exact hbS) (by rw [e0, updL_same, hy.2.1]; exact hbK)
    rw [htell] at k
    exact k
  have HR1 := Lib.hid hR1
  have HR2 := Lib.hid hR2
  have HT := Lib.hid hT
  have HN := Lib.hid hN
  have HF := Lib.hid h
  have HS := Lib.hid hS
  have HE0 := Lib.hid e0
  have HNN := Lib.hid hn
  clear hR1 hR2 hT hN h hn hy hS e0 hno hcl htell hbS hbK
  go_enter Try.func41, Try.ntmps41
  go_wp2_with fail
  go_loopg [2, 3] 1 (fun k s2 s3 wr => ∃ yp xp : Option Addr, s2 = .pointer yp ∧ s3 = .pointer xp ∧ Hid ((k = 1 ∧ yp = none ∧ xp = some ⟨n, 0, none⟩ ∧ NAt wr S (updL N n y) ∧ Mod S w wr) ∨ (k = 0 ∧ xp = none ∧ NAt wr S N ∧ Mod S w wr)))
  case atStart => exact ⟨_, _, rfl, rfl, Lib.hid (.inl ⟨rfl, rfl, rfl, HN.out, Mod.refl _ _⟩)⟩
  case round =>
    obtain ⟨yp, xp, rfl, rfl, HO⟩ := hrel
    rcases HO.out with ⟨hk, rfl, rfl, h1, m1⟩ | ⟨hk, rfl, h1, m1⟩
    · have H1 := Lib.hid h1
      have M1 := Lib.hid m1
      have HKK := Lib.hid hk
      clear h1 m1 HO hk
      go_wp2_with fail
      refine (HR1.out _ H1.out).mono ?_
      rintro e w2 ⟨rfl, h2, m2⟩
      have H2 := Lib.hid h2
      have M2 := Lib.hid (M1.out.trans' m2)
      have v2 : w2.cell? ⟨n, 2, none⟩ = some (.pointer none) := by
        have k := (h2 n HS.out).cell 2
        have k : w2.cell? ⟨n, 2, none⟩ = some (ptrV (updL N n y n).n.r) := k
        rw [HE0.out] at k
        exact k
      have f2 := (h2 n HS.out).frozen 2
      have HY : Hid (NAt (w2.setCell ⟨n, 2, none⟩ (.pointer none)) S (updL N n y) ∧ Mod S w2 (w2.setCell ⟨n, 2, none⟩ (.pointer none))) := Lib.hid (by
        have k := nat_setR (c := n) (N := updL N n y) (M := nOf (updL N n y)) ⟨h2, Mod.refl _ _⟩ HS.out none
        have e3 : withN (updL N n y) (upd (nOf (updL N n y)) n { nOf (updL N n y) n with r := none }) = updL N n y := by
          funext b
          refine withN_eta ?_
          by_cases hb : b = n
          · subst hb
            rw [upd_same]
            unfold nOf
            rw [HE0.out]
          · rw [upd_ne _ _ hb]
        rw [e3] at k
        exact k)
      clear h2 m2
      go_wp2_with fail
      clear v2 f2
      refine (HT.out _ HY.out.1).mono ?_
      rintro e w3 ⟨rfl, h3, m3⟩
      have H3 := Lib.hid h3
      have M3 := Lib.hid ((M2.out.trans' HY.out.2).trans' m3)
      have v0 : w3.cell? ⟨n, 0, none⟩ = some (.pointer none) := by
        have k : w3.cell? ⟨n, 0, none⟩ = some (ptrV (N n).n.up) := (h3 n HS.out).cell 0
        rw [HNN.out] at k
        exact k
      clear h3 m3
      go_wp2_with fail
      go_roundg 0
      case rel => exact ⟨_, _, rfl, rfl, Lib.hid (.inr ⟨rfl, rfl, H3.out, M3.out⟩)⟩
      case measure => have := HKK.out; omega
    · have H1 := Lib.hid h1
      have M1 := Lib.hid m1
      clear h1 m1 HO hk
      go_wp2_with fail
      refine (HR2.out _ H1.out).mono ?_
      rintro e w2 ⟨rfl, h2, m2⟩
      have H2 := Lib.hid h2
      have M2 := Lib.hid (M1.out.trans' m2)
      clear h2 m2
      go_wp2_with fail
      go_end0
      refine ⟨rfl, N, K, .nil, H2.out, M2.out, HF.out, fun _ => ⟨rfl, rfl⟩, fun c hc hno => ?_⟩
      rcases List.mem_cons.1 hc with rfl | hc
      · exact absurd (.refl _) (hno n (by simp [ST.flat]))
      · exact ⟨hc, fun _ _ => rfl⟩

end Go.Proofs.Ytlhkajlkapoabaa
