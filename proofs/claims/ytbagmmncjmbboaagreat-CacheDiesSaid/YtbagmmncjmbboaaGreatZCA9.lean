/-
  The walk of the pool's take.
-/
import Derived.Deep.RegionLaw
import Derived.Test.YtbagmmncjmbboaaGreatZCA7
namespace Go.Proofs.YtbagmmncjmbboaaGreat
open Go.RowKit Go.Maps
set_option linter.unusedVariables false

/-- A frame with a page that was just read. -/
def frNew (n : Int) (pg : PG) : Fr := ⟨n, some pg, 0, false, 0, 0⟩

/-- What take leaves of a pool: the error's number, the frame. -/
def TakeOut (c : CP) (n : Nat) (k : Int) (a : Option Nat) (c' : CP) : Prop :=
  (oldest c.fs c.fs.length = none ∧ k = 100 ∧ a = none ∧ c' = c) ∨
  (∃ i x, oldest c.fs c.fs.length = some i ∧ c.fs[i]? = some x ∧
    (((c.clean i).2 ≠ 0 ∧ k = (c.clean i).2 ∧ a = none ∧ c' = (c.clean i).1) ∨
     ((c.clean i).2 = 0 ∧ (c.clean i).1.s.readE ((c.o.base + n : Nat) : Int) ≠ 0 ∧ k = (c.clean i).1.s.readE ((c.o.base + n : Nat) : Int) ∧ a = none ∧ c' = (c.clean i).1) ∨
     ((c.clean i).2 = 0 ∧ (c.clean i).1.s.readE ((c.o.base + n : Nat) : Int) = 0 ∧ (∀ m, ¬ PageOf ((c.clean i).1.s.has (c.o.base + n)) m) ∧ k = 80 ∧ a = none ∧ c' = (c.clean i).1) ∨
     ((c.clean i).2 = 0 ∧ (c.clean i).1.s.readE ((c.o.base + n : Nat) : Int) = 0 ∧ ∃ pg v, PageOf ((c.clean i).1.s.has (c.o.base + n)) pg ∧ k = 0 ∧ a = some i ∧ c' = { (c.clean i).1 with fs := (c.clean i).1.fs.set i (frNew n pg, v) })))

/-- .. and answers. -/
def TakeRes (w : World) (I : PI) (Q : Nat → Prop) (c : CP) (n : Nat) (e : Ending) (w' : World) : Prop := ∃ k a c', e = .returned (.tuple #[ptrF I.fb a, .int .i64 k]) ∧ TakeOut c n k a c' ∧ PoolAt w' I Q c' ∧ Mod I.Turn w w'

/-- Clean leaves a pool's numbers, and its frames but for the mark. -/
theorem clean_keeps (c : CP) (i : Nat) : (c.clean i).1.o.base = c.o.base ∧ (c.clean i).1.o.count = c.o.count ∧ (c.clean i).1.o.turn = c.o.turn ∧ (c.clean i).1.fs.length = c.fs.length ∧
    ∀ (j : Nat) y, (c.clean i).1.fs[j]? = some y → ∃ z, c.fs[j]? = some z ∧ (y = z ∨ (j = i ∧ (c.clean i).2 = 0 ∧ y = ({ z.1 with dirty := false }, z.2))) := by
  cases hx : c.fs[i]? with
  | none =>
    have e : c.clean i = (c, 0) := by unfold CP.clean; rw [hx]
    rw [e]
    exact ⟨rfl, rfl, rfl, rfl, fun j y hy => ⟨y, hy, .inl rfl⟩⟩
  | some x =>
    cases hd : x.1.dirty with
    | false =>
      rw [clean_not hx hd]
      exact ⟨rfl, rfl, rfl, rfl, fun j y hy => ⟨y, hy, .inl rfl⟩⟩
    | true =>
      cases hp : x.1.page with
      | none =>
        rw [clean_free hx hp]
        exact ⟨rfl, rfl, rfl, rfl, fun j y hy => ⟨y, hy, .inl rfl⟩⟩
      | some pg =>
        rw [clean_yes hx hp hd]
        obtain ⟨a1, a2, a3⟩ := after_same c.o (cleanP ((c.o.base : Int) + x.1.num) pg c.s c.m).2.2
        exact ⟨a1, a2, a3, framesAfter_len _ _ _ _, fun j y hy => framesAfter_at hx _ hy⟩

theorem clean_idx {w : World} {I : PI} {Q : Nat → Prop} {c : CP} (h : PoolAt w I Q c) (i : Nat) (a : Int) : idx (c.clean i).1.fs a = idx c.fs a := by
  cases hx : c.fs[i]? with
  | none =>
    have e : c.clean i = (c, 0) := by unfold CP.clean; rw [hx]
    rw [e]
  | some x =>
    cases hd : x.1.dirty with
    | false => rw [clean_not hx hd]
    | true =>
      cases hp : x.1.page with
      | none => rw [clean_free hx hp]
      | some pg =>
        rw [clean_yes hx hp hd]
        dsimp only
        unfold framesAfter
        split
        · have hu2 : Uniq (c.fs.set i ({ x.1 with dirty := false }, x.2)) := h.uniq.same hx (fun e => e) rfl
          rw [idx_set h.uniq hx hu2]
          have e : isAt a (({ x.1 with dirty := false }, x.2) : Fr × FrM) = isAt a x := rfl
          rw [e]
          by_cases h1 : isAt a x = true
          · rw [if_pos h1, idx_of h.uniq hx h1]
          · rw [if_neg h1, if_neg h1]
        · rfl

theorem dropF {fb : Nat} {fs : List (Fr × FrM)} (hu : Uniq fs) {i : Nat} {x y : Fr × FrM} (hx : fs[i]? = some x) (hu2 : Uniq (fs.set i y)) (hy : y.1.page.isSome = true) (a : Int) :
    holdF fb (fs.set i y) a = if a = y.1.num then some (.pointer (some ⟨fb, i * 6, none⟩)) else if isAt a x = true then none else holdF fb fs a := by
  unfold holdF
  rw [idx_set hu hx hu2]
  have e : isAt a y = decide (a = y.1.num) := by
    unfold isAt; rw [hy, Bool.true_and]
    by_cases h : a = y.1.num <;> simp [h]
    exact fun e => h e.symm
  rw [e]
  by_cases h1 : a = y.1.num
  · simp [h1]
  · simp only [h1, decide_false, Bool.false_eq_true, if_false]
    by_cases h2 : isAt a x = true
    · rw [if_pos h2, if_pos h2]; rfl
    · rw [if_neg h2, if_neg h2]

theorem readE_zero {s : DS} {i : Nat} (h : s.readE (i : Int) = 0) : i < s.safe.length := by
  unfold DS.readE at h
  split at h
  · omega
  · split at h
    · omega
    · rename_i h2
      unfold DS.isSec at h2
      simp at h2
      exact h2

theorem encFr_one (z : Fr × FrM) : ∀ v ∈ encFr z, v.oneCell' = true := by
  intro v hv
  unfold encFr at hv
  simp only [List.mem_cons, List.not_mem_nil, or_false] at hv
  rcases hv with rfl | rfl | rfl | rfl | rfl | rfl <;> rfl

theorem sizeFr : (Tryz.prog.info? 108).map (·.size) = some 6 := by kernel_rfl

theorem wpList_storeFr {ops : Array Oper} {rest : List Oper} {o : Oper} {a : Act} {w : World} {P : Exit → Act → World → Prop} (hg : o.guard = none) (x y : Operand) (hop : o.op = .store 108 x y) (fb i : Nat) (fs : List (Fr × FrM)) (z : Fr × FrM)
    (hx : a.eval x = .pointer (some ⟨fb, i * 6, none⟩)) (hy : a.eval y = .agg (encFr z).toArray) (hF : FrAt w fb fs) (hi : i < fs.length)
    (h : ∀ w', FrAt w' fb (fs.set i z) → Mod (fun k => k = fb) w w' → wpList Tryz.prog ops P rest (a.put o.dst undef) w') : wpList Tryz.prog ops P (o :: rest) a w := by
  refine wpList_store_mid hg 108 x y hop fb (i * 6) (encFr z).toArray hx hy (hF.there hi) (by rw [sizeFr, List.size_toArray, encFr_len]) (all_oneCell_toArray (encFr_one z)) ?_
  exact h _ (hF.put hi z) ((Mod.refl (fun k => k = fb) w).setCells (fun _ => rfl) _ _)

theorem isPtr_nil : isPtr (.pointer none) := ⟨none, rfl⟩

section

variable {w w' : World} {I : PI} {Q : Nat → Prop} {c : CP}

/-- The end: the frame has the page, the map tells it. -/
theorem taken {w3 w4 w5 w6 : World} {c1 : CP} {i n : Nat} {x : Fr × FrM} {pg : PG} {v : FrM} (h3 : PoolAt w3 I Q c1) (hx : c1.fs[i]? = some x) (hn : n < c1.o.count) (hno : idx c1.fs (n : Int) = none) (hpg : PgIn w3 (I.Far Q) v pg)
    (hm4 : Mod (fun k => k = I.mp) w3 w4) (hf5 : FrAt w5 I.fb (c1.fs.set i (frNew n pg, v))) (hm45 : Mod (fun k => k = I.fb) w4 w5)
    (hM5 : MapG kI isPtr w6 I.mp (I.nf + 1) (fun a : Int => if a = (n : Int) then some (.pointer (some ⟨I.fb, i * 6, none⟩)) else if isAt a x = true then none else holdF I.fb c1.fs a)) (hm5 : Mod (fun k => k = I.mp) w5 w6) :
    PoolAt w6 I Q { c1 with fs := c1.fs.set i (frNew n pg, v) } ∧ Mod I.Turn w3 w6 := by
  have hi := (List.getElem?_eq_some_iff.1 hx).1
  have hm35 : Mod (fun k => k = I.fb ∨ k = I.mp) w3 w6 := ((hm4.mono fun k _ e => .inr e).trans (S' := fun k => k = I.fb ∨ k = I.mp) ((hm45.mono fun k _ e => .inl e).trans (S' := fun k => k = I.fb ∨ k = I.mp) (hm5.mono fun k _ e => .inr e) fun _ _ e => e) fun _ _ e => e)
  have hmT : Mod I.Turn w3 w6 := hm35.mono fun k _ e => by
    rcases e with e | e
    · exact .inr (.inr (.inl e))
    · exact .inr (.inr (.inr e))
  have hu2 : Uniq (c1.fs.set i (frNew n pg, v)) := h3.uniq.fresh hx hno
  have hfit := h3.fit
  have hr2 : ∀ (j : Nat) y, (c1.fs.set i (frNew n pg, v))[j]? = some y → y.1.page.isSome = true → 0 ≤ y.1.num ∧ y.1.num < 4097 := by
    intro j y hy hp
    rcases set_at hx hy with ⟨rfl, rfl⟩ | ⟨-, hy⟩
    · show (0 : Int) ≤ (n : Int) ∧ (n : Int) < 4097
      omega
    · have := h3.rng j y hy hp; omega
  have hmap : MapG kI isPtr w6 I.mp (I.nf + 1) (holdF I.fb (c1.fs.set i (frNew n pg, v))) := hM5.cast fun a _ => (dropF h3.uniq hx hu2 rfl a).symm
  refine ⟨h3.turned hmT (h3.wal.apart hm35 fun k hk => by rcases hk with e | e <;> subst e; exact h3.af; exact h3.am) (h3.blk.mod hm35 (by rintro (e | e); exact h3.ne.1 e; exact h3.ne.2.1 e)) (Blk.mod hf5 hm5 h3.ne.2.2) (map_bound hu2 (by rw [List.length_set, h3.num]; exact Nat.le_refl _) hr2 hmap) (by simp) hu2 rfl rfl (Nat.le_refl _) ?_, hmT⟩
  intro j y hy
  rcases set_at hx hy with ⟨rfl, rfl⟩ | ⟨-, hy⟩
  · refine .inr ⟨⟨pg, rfl, hpg.mod hm35 (fun k _ hf e => ?_) (fun _ _ e => e)⟩, ⟨?_, ?_⟩, Nat.zero_le _, Nat.zero_le _⟩
    · rcases e with e | e
      · exact hf.1 (.inr (.inr (.inr (.inr (.inl e)))))
      · exact hf.1 (.inr (.inr (.inr (.inr (.inr e)))))
    · show (0 : Int) ≤ (n : Int); omega
    · show (n : Int) < (c1.o.count : Int); omega
  · exact .inl ⟨y, hy, ⟨rfl, rfl, rfl⟩, fun _ => ⟨rfl, rfl⟩, .inl rfl, .inl rfl⟩

set_option maxRecDepth 100000 in
set_option maxHeartbeats 4000000 in
theorem take_pool (h : PoolAt w I Q c) (n : Nat) (hn : n < c.o.count) (hno : idx c.fs (n : Int) = none) (hst : c.s.steps < 1000000000000000) :
    Calls Tryz.prog 94 #[.pointer (some ⟨I.q, 0, none⟩), .int .i64 (n : Int)] w (TakeRes w I Q c n) := by
  have c4 := h.c4
  have H := Lib.hid h
  have HN := Lib.hid hn
  have HNO := Lib.hid hno
  have HST := Lib.hid hst
  clear h hn hno hst
  go_enter Tryz.func94, Tryz.ntmps94
  go_wp2_with fail
  refine (leaver_any w I.q I.fb I.nf c.fs H.out.frs H.out.num H.out.nf.2 c4).mono ?_
  rintro e w1 ⟨rfl, hb1⟩
  have H1 := Lib.hid (H.out.below hb1)
  have HM1 : Hid (Mod I.Turn w w1) := Lib.hid (Mod.of_below hb1 _)
  clear hb1 c4
  cases ho : oldest c.fs I.nf with
  | none =>
    have HO := Lib.hid ho
    clear ho
    unfold ptrF
    dsimp only [Option.map]
    go_wp2_with fail
    go_ret2
    exact ⟨100, none, c, rfl, .inl ⟨by rw [H.out.num]; exact HO.out, rfl, rfl, rfl⟩, H1.out, HM1.out⟩
  | some i =>
    obtain ⟨hi1, hi2⟩ := oldest_lt c.fs I.nf i ho
    obtain ⟨x, hx⟩ : ∃ x, c.fs[i]? = some x := ⟨_, List.getElem?_eq_getElem hi2⟩
    have HO : Hid (oldest c.fs c.fs.length = some i) := Lib.hid (by rw [H.out.num]; exact ho)
    have HX := Lib.hid hx
    have HI1 := Lib.hid hi1
    clear ho hi1 hi2 hx
    unfold ptrF
    dsimp only [Option.map]
    go_wp2_with fail
    refine (clean_pool H1.out HX.out HST.out).mono ?_
    rintro e w2 ⟨rfl, h2, hm2⟩
    obtain ⟨c1, k1, hc1⟩ : ∃ c1 k1, c.clean i = (c1, k1) := ⟨_, _, rfl⟩
    have hkeep := clean_keeps c i
    have hidx := clean_idx H.out i (n : Int)
    rw [hc1] at h2 hkeep hidx ⊢
    dsimp only at h2 hkeep hidx ⊢
    have HC1 := Lib.hid hc1
    have HK1 := Lib.hid hkeep
    have HID := Lib.hid (hidx.trans HNO.out)
    have H2 := Lib.hid h2
    have HM2 : Hid (Mod I.Turn w w2) := Lib.hid (HM1.out.trans' hm2)
    clear hc1 hkeep hidx h2 hm2
    by_cases hk : k1 = 0
    · subst hk
      have b0 := H2.out.c0
      have b2 := H2.out.c2
      go_wp2_with fail
      refine (poolRead_any w2 I.q I.p I.sb I.mb I.pl c1.s c1.o.base n (c1.o.base + n) H2.out.wal.dk rfl (by have := H2.out.fit; have := HK1.out.2.1; have := HN.out; omega) b0 b2).mono ?_
      rintro e w3 ⟨hb3, h3⟩
      have H3 := Lib.hid (H2.out.below hb3)
      have HM3 : Hid (Mod I.Turn w w3) := Lib.hid (HM2.out.trans' (Mod.of_below hb3 _))
      have HB3 := Lib.hid hb3
      clear hb3 b0 b2
      rcases h3 with ⟨hre, rfl⟩ | ⟨hre, hnp, rfl⟩ | ⟨hre, pg, p', v', xs', hpo, rfl, hpg, hit⟩
      · obtain ⟨re, hre'⟩ : ∃ re, re = c1.s.readE ((c1.o.base + n : Nat) : Int) := ⟨_, rfl⟩
        rw [← hre'] at hre ⊢
        have HRE := Lib.hid hre'
        have HNE := Lib.hid hre
        have e1 : (re != 0) = true := by simpa using hre
        clear hre' hre
        go_wp2_with fail
        go_ret2
        refine ⟨re, none, c1, rfl, .inr ⟨i, x, HO.out, HX.out, .inr (.inl ?_)⟩, H3.out, HM3.out⟩
        rw [HC1.out]
        dsimp only
        rw [← HK1.out.1, ← HRE.out]
        exact ⟨rfl, HNE.out, rfl, rfl, rfl⟩
      · have HRE := Lib.hid hre
        have HNP := Lib.hid hnp
        clear hre hnp
        go_wp2_with fail
        go_ret2
        refine ⟨80, none, c1, rfl, .inr ⟨i, x, HO.out, HX.out, .inr (.inr (.inl ?_))⟩, H3.out, HM3.out⟩
        rw [HC1.out]
        dsimp only
        rw [← HK1.out.1]
        exact ⟨rfl, HRE.out, HNP.out, rfl, rfl, rfl⟩
      · have HPG : Hid (PgIn w3 (I.Far Q) ⟨p', v', xs'⟩ pg ∧ pg.Fit) := Lib.hid (by
          have hf : pg.Fit := by
            rcases hpo with ⟨-, rfl⟩ | ⟨-, its, hI, hpre, rfl⟩
            · unfold PG.Fit PG.new; simp
            · exact (isPage_pgC hI (fun y hy => (H2.out.wal.dk.ok.has (i := c1.o.base + n) (readE_zero hre)).2 y hy) hpre).2.1
          refine ⟨⟨hpg.base' (Nat.zero_le _), hf, H2.out.new_far hpg.base, fun k hk => H2.out.new_far (hpg.row.lt k hk).1, fun j y l hy hl => ?_⟩, hf⟩
          have h1 := hit j y l hy hl
          have h2 := hpg.itemsIn j y l hy hl
          rcases h1 with h1 | h1
          · exact .inl h1
          · rcases h2 with h2 | h2
            · exact .inl h2
            · exact .inr fun b hb e => e ⟨Classical.not_not.1 (h2 b hb), H2.out.new_far (Classical.not_not.1 (h1 b hb))⟩)
        have HRE := Lib.hid hre
        have HPO := Lib.hid hpo
        clear hre hpo hpg hit
        obtain ⟨x1, hx1⟩ : ∃ x1, c1.fs[i]? = some x1 := ⟨_, List.getElem?_eq_getElem (by rw [H2.out.num]; exact HI1.out)⟩
        have HX1 := Lib.hid hx1
        clear hx1
        have b5 := H3.out.c5
        have there := H3.out.frs.there (i := i) (by rw [H2.out.num]; exact HI1.out)
        have k0 := H3.out.frs.cell HX1.out 0 _ rfl
        rw [Nat.add_zero] at k0
        have k1 := H3.out.frs.cell HX1.out 1 _ rfl
        have hn64 : I64 (n : Int) := by have := H3.out.fit; have := HK1.out.2.1; have := HN.out; unfold I64; omega
        have HNE := Lib.hid H3.out.ne
        have HNF : Hid (I.nf < 9223372036854775807) := Lib.hid (by have := H3.out.nf; omega)
        have HI : Hid (i < c1.fs.length) := Lib.hid (List.getElem?_eq_some_iff.1 HX1.out).1
        clear there
        cases hp1 : x1.1.page with
        | none =>
          have HM4 : Hid (Mod (fun k => k = I.mp) w3 w3) := Lib.hid (Mod.refl _ _)
          have HF4 := Lib.hid H3.out.frs
          have HMP4 : Hid (MapG kI isPtr w3 I.mp I.nf (fun a : Int => if isAt a x1 = true then none else holdF I.fb c1.fs a)) := Lib.hid (H3.out.map.cast fun a _ => by
            have e : isAt a x1 = false := by unfold isAt; rw [hp1]; rfl
            rw [e]; rfl)
          rw [hp1] at k1
          dsimp only [Option.map] at k1
          clear hp1
          go_wp2_with (first
            | (refine wpList_storeFr rfl _ _ rfl I.fb i c1.fs (frNew (n : Int) pg, ⟨p', v', xs'⟩) rfl rfl HF4.out HI.out ?_; intro w5 hf5 hm5; have HF5 := Lib.hid hf5; have HM5 := Lib.hid hm5; have b55 : w5.cell? ⟨I.q, 5, none⟩ = some (.map (some I.mp)) := (by have h := (H3.out.blk.mod HM4.out HNE.out.2.1).mod hm5 HNE.out.1; exact h.cell 5); have HMP5 := Lib.hid (HMP4.out.mod hm5 (fun e => HNE.out.2.2 e.symm)); clear hf5 hm5)
            | (at_mapUpdate; refine wpList_storeG (X := kI) rfl _ _ _ _ rfl _ Tryz.underlying111 I.mp I.nf rfl HMP5.out HNF.out (n : Int) rfl hn64 _ rfl ⟨_, rfl⟩ ?_; intro w6 hM6 hT6))
          go_ret2
          obtain ⟨hpool, hmod⟩ := taken H3.out HX1.out (by rw [HK1.out.2.1]; exact HN.out) HID.out HPG.out.1 HM4.out HF5.out HM5.out hM6 (Mod.turned (Mod.refl (fun k => k = I.mp) _) hT6 (fun _ => rfl))
          refine ⟨0, some i, _, rfl, .inr ⟨i, x, HO.out, HX.out, .inr (.inr (.inr ?_))⟩, hpool, HM3.out.trans' hmod⟩
          rw [HC1.out]
          dsimp only
          rw [← HK1.out.1]
          exact ⟨rfl, HRE.out, pg, _, HPO.out, rfl, rfl, rfl⟩
        | some pg1 =>
          have HAT : Hid (∀ a : Int, isAt a x1 = decide (a = x1.1.num)) := Lib.hid (fun a => by
            unfold isAt; rw [hp1, Option.isSome_some, Bool.true_and]
            by_cases h : a = x1.1.num
            · simp [h]
            · simp [h]; exact fun e => h e.symm)
          have hk64 : I64 x1.1.num := by have h1 := H3.out.rng i x1 HX1.out (by rw [hp1]; rfl); have h2 := H3.out.fit; unfold I64; omega
          rw [hp1] at k1
          dsimp only [Option.map] at k1
          clear hp1
          go_upto_region 11 with fail
          obtain ⟨w4, hrun, hM4, hT4⟩ : ∃ w4, (Builtin.delete_ #[111, 3] 0 #[.map (some I.mp), .int .i64 x1.1.num]).run Tryz.prog w3.drew = .ok (.tuple #[]) w4 ∧ MapG kI isPtr w4 I.mp I.nf (fun a : Int => if a = x1.1.num then none else holdF I.fb c1.fs a) ∧ w3.drew.mapTurned w4 I.mp :=
            MapG.drop (X := kI) (H3.out.map.mod (Mod.refl (fun _ => False) w3).drew id) Tryz.underlying111 hk64 0
          have HM4 : Hid (Mod (fun k => k = I.mp) w3 w4) := Lib.hid (Mod.turned (Mod.refl (fun k => k = I.mp) w3).drew hT4 (fun _ => rfl))
          have HF4 : Hid (FrAt w4 I.fb c1.fs) := Lib.hid (Blk.mod H3.out.frs HM4.out HNE.out.2.2)
          have HMP4 : Hid (MapG kI isPtr w4 I.mp I.nf (fun a : Int => if isAt a x1 = true then none else holdF I.fb c1.fs a)) := Lib.hid (hM4.cast fun a _ => by
            rw [HAT.out a]
            by_cases h : a = x1.1.num
            · simp [h]
            · simp [h])
          clear hM4 hT4
          go_region
          all_goals clear hrun b5 k0 k1
          have b5 : w4.cell? ⟨I.q, 5, none⟩ = some (.map (some I.mp)) := (H3.out.blk.mod HM4.out HNE.out.2.1).cell 5
          go_wp2_with (first
            | (refine wpList_storeFr rfl _ _ rfl I.fb i c1.fs (frNew (n : Int) pg, ⟨p', v', xs'⟩) rfl rfl HF4.out HI.out ?_; intro w5 hf5 hm5; have HF5 := Lib.hid hf5; have HM5 := Lib.hid hm5; have b55 : w5.cell? ⟨I.q, 5, none⟩ = some (.map (some I.mp)) := (by have h := (H3.out.blk.mod HM4.out HNE.out.2.1).mod hm5 HNE.out.1; exact h.cell 5); have HMP5 := Lib.hid (HMP4.out.mod hm5 (fun e => HNE.out.2.2 e.symm)); clear hf5 hm5)
            | (at_mapUpdate; refine wpList_storeG (X := kI) rfl _ _ _ _ rfl _ Tryz.underlying111 I.mp I.nf rfl HMP5.out HNF.out (n : Int) rfl hn64 _ rfl ⟨_, rfl⟩ ?_; intro w6 hM6 hT6))
          go_ret2
          obtain ⟨hpool, hmod⟩ := taken H3.out HX1.out (by rw [HK1.out.2.1]; exact HN.out) HID.out HPG.out.1 HM4.out HF5.out HM5.out hM6 (Mod.turned (Mod.refl (fun k => k = I.mp) _) hT6 (fun _ => rfl))
          refine ⟨0, some i, _, rfl, .inr ⟨i, x, HO.out, HX.out, .inr (.inr (.inr ?_))⟩, hpool, HM3.out.trans' hmod⟩
          rw [HC1.out]
          dsimp only
          rw [← HK1.out.1]
          exact ⟨rfl, HRE.out, pg, _, HPO.out, rfl, rfl, rfl⟩
    · have e1 : (k1 != 0) = true := by simpa using hk
      have HK := Lib.hid hk
      clear hk
      go_wp2_with fail
      go_ret2
      refine ⟨k1, none, c1, rfl, .inr ⟨i, x, HO.out, HX.out, .inl ?_⟩, H2.out, HM2.out⟩
      rw [HC1.out]
      exact ⟨HK.out, rfl, rfl, rfl⟩
end
end Go.Proofs.YtbagmmncjmbboaaGreat

/-
  The walk of the pool's find.
-/
namespace Go.Proofs.YtbagmmncjmbboaaGreat
open Go.RowKit Go.Maps
set_option linter.unusedVariables false

/-- The frame i, x, was asked for. -/
def CP.ask (c : CP) (i : Nat) (x : Fr × FrM) : CP := { c with o := { c.o with turn := c.o.turn + 1 }, fs := c.fs.set i ({ x.1 with asked := c.o.turn + 1 }, x.2) }

/-- What find leaves of a pool: the error's number, the frame. -/
def FindOut (c : CP) (n : Int) (k : Int) (a : Option Nat) (c' : CP) : Prop :=
  (c.o.dead = true ∧ k = 91 ∧ a = none ∧ c' = c) ∨
  (c.o.dead = false ∧ ¬ (0 ≤ n ∧ n < c.o.count) ∧ k = 1 ∧ a = none ∧ c' = c) ∨
  (c.o.dead = false ∧ ∃ N : Nat, n = (N : Int) ∧ N < c.o.count ∧
    ((∃ i x, idx c.fs n = some i ∧ c.fs[i]? = some x ∧ k = 0 ∧ a = some i ∧ c' = c.ask i x) ∨
     (idx c.fs n = none ∧ ∃ k1 a1 c1, TakeOut c N k1 a1 c1 ∧ ((k1 ≠ 0 ∧ k = k1 ∧ a = none ∧ c' = c1) ∨ (k1 = 0 ∧ ∃ i x, a1 = some i ∧ c1.fs[i]? = some x ∧ isAt n x = true ∧ k = 0 ∧ a = some i ∧ c' = c1.ask i x)))))

def FindRes (w : World) (I : PI) (Q : Nat → Prop) (c : CP) (n : Int) (e : Ending) (w' : World) : Prop := ∃ k a c', e = .returned (.tuple #[ptrF I.fb a, .int .i64 k]) ∧ FindOut c n k a c' ∧ PoolAt w' I Q c' ∧ Mod I.Turn w w' ∧ ∀ i x, a = some i → c'.fs[i]? = some x → x.1.pins < c'.o.turn

theorem take_none {c c1 : CP} {n : Nat} {k : Int} {a : Option Nat} (h : TakeOut c n k a c1) (hk : k ≠ 0) : a = none := by
  rcases h with ⟨-, -, h, -⟩ | ⟨i, x, -, -, ⟨-, -, h, -⟩ | ⟨-, -, -, h, -⟩ | ⟨-, -, -, -, h, -⟩ | ⟨-, -, pg, v, -, h, -⟩⟩
  · exact h
  · exact h
  · exact h
  · exact h
  · exact absurd h hk

theorem take_some {c c1 : CP} {n : Nat} {a : Option Nat} (h : TakeOut c n 0 a c1) : ∃ i x, a = some i ∧ c1.fs[i]? = some x ∧ isAt (n : Int) x = true := by
  rcases h with ⟨-, h, -⟩ | ⟨i, x, -, hx, ⟨h1, h2, -⟩ | ⟨-, h1, h2, -⟩ | ⟨-, -, -, h, -⟩ | ⟨-, -, pg, v, -, -, ha, hc⟩⟩
  · omega
  · exact absurd h2.symm h1
  · exact absurd h2.symm h1
  · omega
  · refine ⟨i, (frNew n pg, v), ha, ?_, by unfold isAt frNew; simp⟩
    rw [hc]
    dsimp only
    obtain ⟨-, -, -, hl, -⟩ := clean_keeps c i
    exact List.getElem?_set_self (by rw [hl]; exact (List.getElem?_eq_some_iff.1 hx).1)

theorem ask_at {c : CP} {i : Nat} {x : Fr × FrM} (hx : c.fs[i]? = some x) : (c.ask i x).fs[i]? = some ({ x.1 with asked := c.o.turn + 1 }, x.2) := set_self hx

theorem ask_pins {c : CP} {i : Nat} {x : Fr × FrM} (hx : c.fs[i]? = some x) (h : x.1.pins ≤ c.o.turn) : ∀ j y, some i = some j → (c.ask i x).fs[j]? = some y → y.1.pins < (c.ask i x).o.turn := by
  intro j y e hy
  injection e with e
  subst e
  rw [ask_at hx] at hy
  injection hy with hy
  subst hy
  show x.1.pins < c.o.turn + 1
  omega

theorem find_none {c c' : CP} {n : Int} {k : Int} {a : Option Nat} (h : FindOut c n k a c') (hk : k ≠ 0) : a = none := by
  rcases h with ⟨-, -, h, -⟩ | ⟨-, -, -, h, -⟩ | ⟨-, N, -, -, ⟨i, x, -, -, h, -⟩ | ⟨-, k1, a1, c1, -, ⟨-, -, h, -⟩ | ⟨-, i, x, -, -, -, h, -⟩⟩⟩
  · exact h
  · exact h
  · exact absurd h hk
  · exact h
  · exact absurd h hk

theorem find_some {c c' : CP} {n : Int} {a : Option Nat} (h : FindOut c n 0 a c') : ∃ i x, a = some i ∧ c'.fs[i]? = some x ∧ isAt n x = true := by
  rcases h with ⟨-, h, -⟩ | ⟨-, -, h, -⟩ | ⟨-, N, -, -, ⟨i, x, hi, hx, -, h, hc⟩ | ⟨-, k1, a1, c1, -, ⟨h1, h2, -⟩ | ⟨-, i, x, -, hx, hat, -, h, hc⟩⟩⟩
  · omega
  · omega
  · obtain ⟨y, hy, hat⟩ := idx_some hi
    rw [hx] at hy
    injection hy with hy
    subst hy
    exact ⟨i, ({ x.1 with asked := c.o.turn + 1 }, x.2), h, by rw [hc]; exact ask_at hx, hat⟩
  · exact absurd h2.symm h1
  · exact ⟨i, ({ x.1 with asked := c1.o.turn + 1 }, x.2), h, by rw [hc]; exact ask_at hx, hat⟩

theorem take_turn {c c1 : CP} {n : Nat} {k : Int} {a : Option Nat} (h : TakeOut c n k a c1) : c1.o.turn = c.o.turn := by
  rcases h with ⟨-, -, -, h⟩ | ⟨j, y, -, -, ⟨-, -, -, h⟩ | ⟨-, -, -, -, h⟩ | ⟨-, -, -, -, -, h⟩ | ⟨-, -, pg, v, -, -, -, h⟩⟩
  · rw [h]
  · rw [h]; exact (clean_keeps c j).2.2.1
  · rw [h]; exact (clean_keeps c j).2.2.1
  · rw [h]; exact (clean_keeps c j).2.2.1
  · rw [h]; exact (clean_keeps c j).2.2.1

theorem find_turn {c c' : CP} {n : Int} {k : Int} {a : Option Nat} (h : FindOut c n k a c') : c'.o.turn ≤ c.o.turn + 1 := by
  rcases h with ⟨-, -, -, h⟩ | ⟨-, -, -, -, h⟩ | ⟨-, N, -, -, ⟨i, x, -, -, -, -, h⟩ | ⟨-, k1, a1, c1, ht, ⟨-, -, -, h⟩ | ⟨-, i, x, -, -, -, -, -, h⟩⟩⟩
  · rw [h]; omega
  · rw [h]; omega
  · rw [h]; exact Nat.le_refl _
  · rw [h, take_turn ht]; omega
  · rw [h]; show c1.o.turn + 1 ≤ _; rw [take_turn ht]; omega

theorem zeroP (w : World) : (zeroValue 109).run Tryz.prog w = .ok (.pointer none) w := by kernel_rfl

section

variable {w w' : World} {I : PI} {Q : Nat → Prop} {c : CP}

/-- A frame that holds a page, and the pool's numbers, changed. -/
theorem PoolAt.frame (h : PoolAt w I Q c) {i : Nat} {x y : Fr × FrM} {o' : PO} (hx : c.fs[i]? = some x) (hp : x.1.page.isSome = true) (hm : Mod (fun k => k = I.q ∨ k = I.fb) w w') (hq : Blk w' I.q 113 (poC I.p I.g I.fb I.mp I.nf o')) (hf : FrAt w' I.fb (c.fs.set i y))
    (hn : y.1.num = x.1.num) (hpg : (y.1.page = x.1.page ∧ y.2 = x.2) ∨ ∃ pg, y.1.page = some pg ∧ PgIn w' (I.Far Q) y.2 pg) (hb : o'.base = c.o.base) (hc : o'.count = c.o.count) (ht : c.o.turn ≤ o'.turn) (ha : y.1.asked ≤ o'.turn) (hpi : y.1.pins ≤ o'.turn) :
    PoolAt w' I Q { c with o := o', fs := c.fs.set i y } ∧ Mod I.Turn w w' := by
  have hmT : Mod I.Turn w w' := hm.mono fun k _ e => by
    rcases e with e | e
    · exact .inr (.inl e)
    · exact .inr (.inr (.inl e))
  have hyp : y.1.page.isSome = true := by
    rcases hpg with ⟨e, -⟩ | ⟨pg, e, -⟩
    · rw [e]; exact hp
    · rw [e]; rfl
  have hu2 : Uniq (c.fs.set i y) := h.uniq.same hx (fun _ => hp) hn
  have hmap : MapG kI isPtr w' I.mp I.nf (holdF I.fb (c.fs.set i y)) := (h.map.mod hm (by rintro (e | e); exact h.ne.2.1 e.symm; exact h.ne.2.2 e.symm)).cast fun a _ => (holdF_same h.uniq hx (by rw [hyp, hp]) hn a).symm
  refine ⟨h.turned hmT (h.wal.apart hm fun k hk => by rcases hk with e | e <;> subst e; exact h.aq; exact h.af) hq hf hmap (by simp) hu2 hb hc ht ?_, hmT⟩
  intro j z hz
  rcases set_at hx hz with ⟨rfl, rfl⟩ | ⟨-, hz⟩
  · rcases hpg with ⟨e1, e2⟩ | ⟨pg, e1, e2⟩
    · exact .inl ⟨x, hx, ⟨hn, e1, e2⟩, fun e => (by rw [e] at hyp; cases hyp), .inr ha, .inr hpi⟩
    · refine .inr ⟨⟨pg, e1, e2⟩, ?_, ha, hpi⟩
      rw [hn]
      dsimp only
      rw [hc]
      exact h.rng j x hx hp
  · exact .inl ⟨z, hz, ⟨rfl, rfl, rfl⟩, fun _ => ⟨rfl, rfl⟩, .inl rfl, .inl rfl⟩

/-- The end of find. -/
theorem PoolAt.asked (h : PoolAt w I Q c) {i : Nat} {x : Fr × FrM} (hx : c.fs[i]? = some x) (hp : x.1.page.isSome = true) :
    PoolAt ((w.setCell ⟨I.q, 6, none⟩ (.int .i64 ((c.o.turn + 1 : Nat) : Int))).setCell ⟨I.fb, i * 6 + 5, none⟩ (.int .i64 ((c.o.turn + 1 : Nat) : Int))) I Q (c.ask i x) ∧ Mod I.Turn w ((w.setCell ⟨I.q, 6, none⟩ (.int .i64 ((c.o.turn + 1 : Nat) : Int))).setCell ⟨I.fb, i * 6 + 5, none⟩ (.int .i64 ((c.o.turn + 1 : Nat) : Int))) := by
  have h1 := mod_set1 w I.q 6 (.int .i64 ((c.o.turn + 1 : Nat) : Int))
  have hf : FrAt (w.setCell ⟨I.q, 6, none⟩ (.int .i64 ((c.o.turn + 1 : Nat) : Int))) I.fb c.fs := Blk.mod h.frs h1 (fun e => h.ne.1 e.symm)
  have hq : Blk (w.setCell ⟨I.q, 6, none⟩ (.int .i64 ((c.o.turn + 1 : Nat) : Int))) I.q 113 (poC I.p I.g I.fb I.mp I.nf { c.o with turn := c.o.turn + 1 }) := h.blk.set_ 6 _
  have ht := h.turn i x hx
  refine h.frame (y := ({ x.1 with asked := c.o.turn + 1 }, x.2)) (o' := { c.o with turn := c.o.turn + 1 }) hx hp ?_ (hq.mod (mod_set1 _ _ _ _) h.ne.1) (hf.set_ (x' := ({ x.1 with asked := c.o.turn + 1 }, x.2)) hx (by omega) rfl) rfl (.inl ⟨rfl, rfl⟩) rfl rfl (Nat.le_succ _) (Nat.le_refl _) (by dsimp only; omega)
  exact (h1.mono fun k _ e => .inl e).setCell (p := ⟨I.fb, i * 6 + 5, none⟩) (fun _ => .inr rfl) _

set_option maxRecDepth 100000 in
set_option maxHeartbeats 4000000 in
theorem find_pool (h : PoolAt w I Q c) (n : Int) (hn64 : I64 n) (hst : c.s.steps < 1000000000000000) (htn : c.o.turn < 1000000000000000) :
    Calls Tryz.prog 64 #[.pointer (some ⟨I.q, 0, none⟩), .int .i64 n] w (FindRes w I Q c n) := by
  have c3 := h.c3
  have c5 := h.c5
  have c8 := h.c8
  have H := Lib.hid h
  have HST := Lib.hid hst
  have HTN := Lib.hid htn
  obtain ⟨dd, hdd⟩ : ∃ dd, dd = c.o.dead := ⟨_, rfl⟩
  obtain ⟨cn, hcn⟩ : ∃ cn, cn = c.o.count := ⟨_, rfl⟩
  rw [← hdd] at c8
  rw [← hcn] at c3
  have HDD := Lib.hid hdd
  have HCN := Lib.hid hcn
  have hc4 : cn ≤ 4096 := by have := h.fit; omega
  clear h hst htn hdd hcn
  cases dd with
  | true =>
    go_enter Tryz.func64, Tryz.ntmps64
    go_wp2_with fail
    go_ret2
    exact ⟨91, none, c, rfl, .inl ⟨HDD.out.symm, rfl, rfl, rfl⟩, H.out, Mod.refl _ _, fun _ _ e => by cases e⟩
  | false =>
    by_cases h0 : n < 0
    · have e0 : decide (n < 0) = true := by simpa using h0
      go_enter Tryz.func64, Tryz.ntmps64
      go_wp2_with fail
      go_ret2
      exact ⟨1, none, c, rfl, .inr (.inl ⟨HDD.out.symm, by omega, rfl, rfl, rfl⟩), H.out, Mod.refl _ _, fun _ _ e => by cases e⟩
    · have e0 : decide (n < 0) = false := by simpa using h0
      by_cases h1 : (cn : Int) ≤ n
      · have e1 : decide ((cn : Int) ≤ n) = true := by simpa using h1
        go_enter Tryz.func64, Tryz.ntmps64
        go_wp2_with fail
        go_ret2
        exact ⟨1, none, c, rfl, .inr (.inl ⟨HDD.out.symm, by have := HCN.out; omega, rfl, rfl, rfl⟩), H.out, Mod.refl _ _, fun _ _ e => by cases e⟩
      · have e1 : decide ((cn : Int) ≤ n) = false := by simpa using h1
        obtain ⟨N, rfl⟩ : ∃ N : Nat, n = (N : Int) := ⟨n.toNat, by omega⟩
        have HN : Hid (N < c.o.count) := Lib.hid (by have := HCN.out; omega)
        have HMP := Lib.hid H.out.map
        have e1n : decide (cn ≤ N) = false := by simp; omega
        clear h0 h1
        cases hi : idx c.fs (N : Int) with
        | some i =>
          obtain ⟨x, hx, hat⟩ := idx_some hi
          have HI := Lib.hid hi
          have HX := Lib.hid hx
          have HP := Lib.hid (isAt_yes.1 hat).1
          have HV : Hid ((holdF I.fb c.fs (N : Int)).getD (.pointer none) = .pointer (some ⟨I.fb, i * 6, none⟩)) := Lib.hid (by unfold holdF; rw [hi]; rfl)
          have HS : Hid ((holdF I.fb c.fs (N : Int)).isSome = true) := Lib.hid (by unfold holdF; rw [hi]; rfl)
          clear hi hx hat
          obtain ⟨tn, htn⟩ : ∃ tn, tn = c.o.turn := ⟨_, rfl⟩
          have hw : IntKind.i64.wrap ((tn : Int) + 1) = ((tn + 1 : Nat) : Int) := by have := HTN.out; rw [IntKind.wrap_i64]; omega
          have c6 := H.out.c6
          rw [← htn] at c6
          have q6 : w.frozen? ⟨I.q, 6, none⟩ = false := H.out.blk.frozen 6
          have HTE := Lib.hid htn
          clear htn
          have d5 := H.out.frs.cell HX.out 5 _ rfl
          have f5 : w.frozen? ⟨I.fb, i * 6 + 5, none⟩ = false := Blk.frozen H.out.frs _
          go_enter Tryz.func64, Tryz.ntmps64
          go_wp2_with (at_lookup; refine wpList_lookG (X := kI) rfl _ _ _ rfl _ Tryz.underlying111 (zeroP _) isPtr_nil I.mp I.nf rfl HMP.out (N : Int) rfl hn64 _ _ HV.out HS.out ?_)
          go_ret2
          have hend := H.out.asked HX.out HP.out
          rw [← HTE.out] at hend
          exact ⟨0, some i, _, rfl, .inr (.inr ⟨HDD.out.symm, N, rfl, HN.out, .inl ⟨i, x, HI.out, HX.out, rfl, rfl, rfl⟩⟩), hend.1, hend.2, ask_pins HX.out (H.out.turn i x HX.out).2⟩
        | none =>
          have HI := Lib.hid hi
          have HV : Hid ((holdF I.fb c.fs (N : Int)).getD (.pointer none) = .pointer none) := Lib.hid (by unfold holdF; rw [hi]; rfl)
          have HS : Hid ((holdF I.fb c.fs (N : Int)).isSome = false) := Lib.hid (by unfold holdF; rw [hi]; rfl)
          clear hi
          go_enter Tryz.func64, Tryz.ntmps64
          go_wp2_with (at_lookup; refine wpList_lookG (X := kI) rfl _ _ _ rfl _ Tryz.underlying111 (zeroP _) isPtr_nil I.mp I.nf rfl HMP.out (N : Int) rfl hn64 _ _ HV.out HS.out ?_)
          refine (take_pool H.out N HN.out HI.out HST.out).mono ?_
          rintro e w1 ⟨k1, a1, c1, rfl, ht1, hp1, hm1⟩
          have HT1 := Lib.hid ht1
          have HP1 := Lib.hid hp1
          have HM1 := Lib.hid hm1
          clear ht1 hp1 hm1
          by_cases hk : k1 = 0
          · subst hk
            obtain ⟨i, x, ha, hx, hat⟩ := take_some HT1.out
            subst ha
            have HX := Lib.hid hx
            have HAT := Lib.hid hat
            have HP := Lib.hid (isAt_yes.1 hat).1
            clear hx hat
            obtain ⟨tn, htn⟩ : ∃ tn, tn = c1.o.turn := ⟨_, rfl⟩
            have hturn : c1.o.turn = c.o.turn := by
              rcases HT1.out with ⟨-, -, -, h⟩ | ⟨j, y, -, -, ⟨-, -, -, h⟩ | ⟨-, -, -, -, h⟩ | ⟨-, -, -, -, -, h⟩ | ⟨-, -, pg, v, -, -, -, h⟩⟩
              · rw [h]
              · rw [h]; exact (clean_keeps c j).2.2.1
              · rw [h]; exact (clean_keeps c j).2.2.1
              · rw [h]; exact (clean_keeps c j).2.2.1
              · rw [h]; exact (clean_keeps c j).2.2.1
            have hw : IntKind.i64.wrap ((tn : Int) + 1) = ((tn + 1 : Nat) : Int) := by have := HTN.out; rw [IntKind.wrap_i64]; omega
            clear hturn
            have c61 := HP1.out.c6
            rw [← htn] at c61
            have q61 : w1.frozen? ⟨I.q, 6, none⟩ = false := HP1.out.blk.frozen 6
            have HTE := Lib.hid htn
            clear htn
            have d5 := HP1.out.frs.cell HX.out 5 _ rfl
            have f5 : w1.frozen? ⟨I.fb, i * 6 + 5, none⟩ = false := Blk.frozen HP1.out.frs _
            unfold ptrF
            dsimp only [Option.map]
            go_wp2_with fail
            go_ret2
            have hend := HP1.out.asked HX.out HP.out
            rw [← HTE.out] at hend
            exact ⟨0, some i, _, rfl, .inr (.inr ⟨HDD.out.symm, N, rfl, HN.out, .inr ⟨HI.out, 0, some i, c1, HT1.out, .inr ⟨rfl, i, x, rfl, HX.out, HAT.out, rfl, rfl, rfl⟩⟩⟩), hend.1, HM1.out.trans' hend.2, ask_pins HX.out (HP1.out.turn i x HX.out).2⟩
          · have ha := take_none HT1.out hk
            subst ha
            have e2 : (k1 != 0) = true := by simpa using hk
            have HK := Lib.hid hk
            clear hk
            unfold ptrF
            dsimp only [Option.map]
            go_wp2_with fail
            go_ret2
            exact ⟨k1, none, c1, rfl, .inr (.inr ⟨HDD.out.symm, N, rfl, HN.out, .inr ⟨HI.out, k1, none, c1, HT1.out, .inl ⟨HK.out, rfl, rfl, rfl⟩⟩⟩), HP1.out, HM1.out, fun _ _ e => by cases e⟩
end
end Go.Proofs.YtbagmmncjmbboaaGreat
