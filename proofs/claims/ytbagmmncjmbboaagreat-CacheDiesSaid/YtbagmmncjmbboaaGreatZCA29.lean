/-
  The walk of skeinlaw10.alive: the document's example.
-/
import Derived.BigQuiet
import Derived.Test.YtbagmmncjmbboaaGreatZCA27
namespace Go.Proofs.YtbagmmncjmbboaaGreat
open Go.RowKit Go.Maps
set_option linter.unusedVariables false

theorem below_turn {w W W' : World} {I : PI} (hb : Below w.heap.size w W) (hm : Mod I.Turn W W') (hI : ∀ k, I.Core k → w.heap.size ≤ k) : Below w.heap.size w W' := below_by hb hm fun k hk => hI k (PI.turn_core hk)

set_option maxRecDepth 100000 in
set_option maxHeartbeats 8000000 in
theorem alive10_any (w : World) : Calls Tryz.prog 8 #[] w fun e w' => e = .returned (.bool true) ∧ Below w.heap.size w w' := by
  have hcv := run_const
  go_enter Tryz.func8, Tryz.ntmps8
  go_wp2_with fail
  refine (made10_any w (.slice none 0 0) [] (RB.nil _ _) 3 (by simp) (by omega) 1 (fun _ => False) (fun _ h => h.elim)).mono ?_
  rintro e W0 ⟨I, rfl, hp0, hI, hpl, hb0⟩
  obtain ⟨c0, hc0⟩ : ∃ c0, c0 = newC (begS (disk10 [] 3) 0 4) (begL (disk10 [] 3) 0 4) 4 3 (nfOf 1) := ⟨_, rfl⟩
  have hbeg : Begins c0 3 (disk10 [] 3).has := by rw [hc0]; exact newC_begins (by simp) (by omega) _
  rw [← hc0] at hp0
  have hlen0 : c0.fs.length = 1 := by rw [hc0]; rfl
  clear hc0
  have HBG := Lib.hid hbeg
  have HI := Lib.hid hI
  have HL0 : Hid (Live W0 I (fun _ => False) c0 0 0 (disk10 [] 3).has) := Lib.hid ⟨hp0, hbeg.fine, ⟨hbeg.was.mono fun i b _ h h1 _ => .inl (h (by rw [hbeg.base] at h1; exact h1)), fun i x pg hx hp => by rw [hbeg.frz i x hx] at hp; cases hp⟩⟩
  have HB0 := Lib.hid hb0
  have HN0 := Lib.hid hlen0
  clear hbeg hI hp0 hb0 hlen0 hpl
  go_wp2_with fail
  -- the record
  obtain ⟨hk0, hat0⟩ := HBG.out.fine.app_ok [113] (by simp) (by rw [HBG.out.log.2.2, HBG.out.log.2.1]; simp)
  obtain ⟨A, hA⟩ : ∃ A : Nat, A = (c0.m.append 1 [113]).2.1 := ⟨_, rfl⟩
  have happ := App_live (HL0.out.below ((Below.refl _ _).alloc (Nat.le_refl _) (.cells #[.int .u8 113] 5 (1, 2)))) (by rw [HBG.out.log.2.1]; omega) _ [113] (RB.one W0 113 (by omega)) (by simp)
  rw [hk0, ← hA] at happ
  have HF1 := Lib.hid (HBG.out.fine.app [113] (by simp) (by simp))
  obtain ⟨c1, hc1⟩ : ∃ c1, c1 = c0.app 1 [113] := ⟨_, rfl⟩
  rw [← hc1] at happ HF1
  have HLT : Hid (A < c1.m.lsn c1.m.st.length ∧ A ≤ 9000000000000000000) := Lib.hid (by
    obtain ⟨h1, -, -, hrun, ⟨-, -, hlt⟩ | ⟨hb, -⟩⟩ := HF1.out
    · rw [hA, hat0]
      have hr := h1.log.ok.run
      have hst := h1.log.ok.num
      unfold LG.lsn
      rw [hrun] at hr ⊢
      omega
    · omega)
  have HC1 : Hid (c1.fs = c0.fs ∧ c1.o = c0.o ∧ c1.s = c0.s) := Lib.hid (by rw [hc1]; exact ⟨rfl, rfl, rfl⟩)
  have HLK1 : Hid (∀ n, n < 3 → c1.look n = sec0) := Lib.hid (fun n hn => by
    rw [HF1.out.2.1, look_none (HBG.out.idx _), HBG.out.base, (HBG.out.was (4 + n) (by rw [HBG.out.len]; omega)).2 (by omega)]
    exact disk10_blank (by omega) (by omega))
  clear hk0 hat0 hA hc1
  refine happ.mono ?_
  rintro e W1 ⟨sv1, bv1, hl1, rfl, hm1, hcore1⟩
  have hz0 := HB0.out.size
  have HB1 : Hid (Below w.heap.size w W1) := Lib.hid (below_by (HB0.out.alloc hz0 _) hm1 (fun k hk => HI.out k (.inr (.inl hk))))
  have HI1 : Hid (∀ k, PI.Core { I with sv := sv1, bv := bv1 } k → w.heap.size ≤ k) := Lib.hid (fun k hk => by
    rcases hcore1 k hk with e | e
    · exact HI.out k e
    · simp at e; omega)
  have HL1 := Lib.hid hl1
  clear happ hl1 hm1 hcore1
  -- the page
  go_wp2_with fail
  refine (one10_any _ _ [97] (RB.one W1 97 (by omega))).mono ?_
  rintro e W2 ⟨y, rfl, hy, hb2⟩
  have hb12 : Below W1.heap.size W1 W2 := ((Below.refl _ _).alloc (Nat.le_refl _) _).trans (hb2.mono (by simp))
  have HL2 := Lib.hid (HL1.out.below hb12)
  have HB2 : Hid (Below w.heap.size w W2) := Lib.hid (HB1.out.trans (hb12.mono HB1.out.size))
  have HY : Hid (PgIn W2 (fun k => ¬ PI.Turn { I with sv := sv1, bv := bv1 } k) y (onePg [97])) := Lib.hid (hy.mod (Mod.refl (fun _ => False) _) (fun _ _ _ e => e) (fun k _ hf e => by have := HL1.out.at_.lt k (PI.turn_core e); simp at hf; omega))
  clear hy hb2 hb12
  go_wp2_with fail
  refine (Put_live HL2.out 0 (by unfold I64; omega) (by rw [HC1.out.2.2]; have := HBG.out.steps; omega) (by rw [HC1.out.2.1]; have := HBG.out.turn; omega) y (onePg [97]) HY.out (A : Int) (by have := HLT.out; omega) (by have := HLT.out; omega)).mono ?_
  rintro e W3 ⟨k3, c2, rfl, hbh, hcase⟩
  have HFREE1 : Hid (Free c1) := Lib.hid (by
    obtain ⟨x, hx⟩ : ∃ x, c1.fs[0]? = some x := ⟨_, List.getElem?_eq_getElem (by rw [HC1.out.1, HN0.out]; omega)⟩
    exact ⟨0, x, hx, by rw [HBG.out.frz 0 x (by rw [← HC1.out.1]; exact hx)]; rfl⟩)
  have HCNT1 : Hid (c1.o.count = 3 ∧ c1.o.base = 4 ∧ c1.o.turn = 0 ∧ c1.s.steps ≤ 4) := Lib.hid (by rw [HC1.out.2.1, HC1.out.2.2]; exact ⟨HBG.out.cnt, HBG.out.base, HBG.out.turn, HBG.out.steps⟩)
  rcases hcase with ⟨rfl, f2, i2, N, hN, -, -, look2, pins2, -, dirt2, -, -, -⟩ | ⟨-, hmiss⟩
  case inr => exact (no_miss hmiss (by rw [HCNT1.out.1]; omega) (.inr HFREE1.out) (.inr ⟨_, by rw [HLK1.out _ (by simp)]; exact pageOf_blank⟩)).elim
  obtain rfl : N = 0 := by omega
  have HB3 := Lib.hid (below_turn HB2.out hbh.mod HI1.out)
  have HL3 : Hid (Live W3 { I with sv := sv1, bv := bv1 } (fun _ => False) c2 0 0 (disk10 [] 3).has) := Lib.hid ⟨hbh.at_, f2, hbh.late⟩
  have HCN2 : Hid (c2.o.count = 3 ∧ c2.o.base = 4 ∧ c2.fs.length = 1 ∧ c2.s.steps ≤ 300004 ∧ c2.o.turn ≤ 1) := Lib.hid (by
    obtain ⟨a1, a2, a3, a4⟩ := HCNT1.out
    exact ⟨hbh.count.trans a1, hbh.base.trans a2, by rw [hbh.nf, HC1.out.1]; exact HN0.out, by have := hbh.steps; omega, by have := hbh.turn; omega⟩)
  obtain ⟨pgA, hpgA⟩ : ∃ pgA, pgA = ({ onePg [97] with lsn := (A : Int) } : PG) := ⟨_, rfl⟩
  rw [← hpgA] at look2
  have HGA : Hid (PgGood pgA ∧ pgA.lsn = (A : Int)) := Lib.hid (by
    have h1 := HY.out.good
    rw [hpgA]
    exact ⟨⟨⟨h1.ok.num, h1.ok.item, ⟨by dsimp only; omega, by have := HLT.out; dsimp only; omega⟩, h1.ok.kind, h1.ok.extra⟩, h1.fit, h1.byte⟩, rfl⟩)
  have HLK2 : Hid (c2.look 0 = pageL pgA ∧ c2.look 1 = sec0) := Lib.hid ⟨by rw [look2 0 (by rw [HCNT1.out.1]; omega), if_pos rfl], by rw [look2 1 (by rw [HCNT1.out.1]; omega), if_neg (by omega)]; exact HLK1.out 1 (by omega)⟩
  have HPN2 : Hid (∀ a, pinsOf c2.fs a = 0) := Lib.hid (fun a => by rw [pins2, HC1.out.1]; unfold pinsOf; rw [fr_none.2 (HBG.out.idx a)]; rfl)
  have HDT2 : Hid (dirtOf c2.fs 1 = none) := Lib.hid (by
    rcases dirt2 1 (by omega) with e | e
    · rw [e, HC1.out.1]; unfold dirtOf; rw [fr_none.2 (HBG.out.idx 1)]; rfl
    · exact e)
  have HFR2 : Hid (Free c2) := Lib.hid (free_of_pins HL3.out.sh (by rw [HCN2.out.2.2.1]; omega) HPN2.out)
  clear hbh f2 i2 hN look2 pins2 dirt2 hpgA
  -- another page
  go_wp2_with fail
  refine (Get_live HL3.out 1 (by unfold I64; omega) (by have := HCN2.out; omega) (by have := HCN2.out; omega)).mono ?_
  rintro e W4 ⟨k4, c3, hbh, ⟨rfl, f3, kept3, i3, N, pg3, p3, v3, xs3, hN, -, -, rfl, hpa3, hit3, hg3, hpo3⟩ | ⟨-, hmiss, -⟩⟩
  case inr => exact (no_miss hmiss (by rw [HCN2.out.1]; omega) (.inr HFR2.out) (.inr ⟨_, by rw [show (1 : Int).toNat = 1 from rfl, HLK2.out.2]; exact pageOf_blank⟩)).elim
  obtain rfl : N = 1 := by omega
  rw [HLK2.out.2] at hpo3
  obtain rfl : pg3 = PG.new 0 0 := pageOf_unique hpo3 pageOf_blank
  have HB4 := Lib.hid (below_turn HB3.out hbh.mod HI1.out)
  have HL4 : Hid (Live W4 { I with sv := sv1, bv := bv1 } (fun _ => False) c3 0 0 (disk10 [] 3).has) := Lib.hid ⟨hbh.at_, f3, hbh.late⟩
  have HCN3 : Hid (c3.o.count = 3 ∧ c3.o.base = 4 ∧ c3.fs.length = 1 ∧ c3.s.steps ≤ 600004 ∧ c3.o.turn ≤ 2) := Lib.hid (by
    obtain ⟨a1, a2, a3, a4, a5⟩ := HCN2.out
    exact ⟨hbh.count.trans a1, hbh.base.trans a2, hbh.nf.trans a3, by have := hbh.steps; omega, by have := hbh.turn; omega⟩)
  have HTN : Hid (∀ k, W3.heap.size ≤ k → ¬ PI.Turn { I with sv := sv1, bv := bv1 } k) := Lib.hid (fun k hk e => by have := HL3.out.at_.lt k (PI.turn_core e); omega)
  have HG4 : Hid (PgIn W4 (fun k => ¬ PI.Turn { I with sv := sv1, bv := bv1 } k) ⟨p3, v3, xs3⟩ (PG.new 0 0)) := Lib.hid (by
    refine ⟨hpa3.base' (Nat.zero_le _), hg3.fit, HTN.out _ hpa3.base, fun k hk => HTN.out _ (hpa3.row.lt k hk).1, fun j z l hz hl => ?_⟩
    simp [PG.new] at hl)
  have HI3 : Hid ((idx c3.fs 1).isSome = true) := Lib.hid i3
  have HP3 : Hid ((∀ a, pinsOf c3.fs a = 0) ∧ dirtOf c3.fs 1 = none) := Lib.hid ⟨fun a => (kept3.pins a).trans (HPN2.out a), by
    rcases kept3.dirt 1 with e | e
    · rw [e]; exact HDT2.out
    · exact e⟩
  have HHAS : Hid (c3.s.has 4 = pageL pgA) := Lib.hid (by
    have h1 := look_none (c := c3) (n := 0) (single HCN3.out.2.2.1 i3 (by omega))
    rw [HCN3.out.2.1] at h1
    rw [← h1, kept3.look 0 (by rw [HCN2.out.1]; omega)]
    exact HLK2.out.1)
  have HSF3 : Hid (A < c3.m.lsn c3.m.safe) := Lib.hid (by
    have h1 := hbh.late.behind (n := 0) (by rw [HCN3.out.1]; omega) f3.len HGA.out.1 (by rw [HCN3.out.2.1]; exact HHAS.out) (by rw [HCN3.out.2.1, disk10_blank (by omega) (by omega)]; exact fun e => HGA.out.1.ne e.symm)
    rw [HGA.out.2] at h1
    omega)
  have HRD : Hid (c3.s.readE 4 = 0) := Lib.hid (f3.calm.read (i := 4) (by have := f3.len; rw [HCN3.out.1, HCN3.out.2.1] at this; omega))
  clear hbh f3 kept3 i3 hN hpa3 hit3 hg3 hpo3
  -- the first one on the disk
  go_wp2_with fail
  refine (Read_any W4 I.p I.sb I.mb I.pl c3.s HL4.out.at_.wal.dk 4).mono ?_
  rintro e W5 ⟨v5, rfl, hb5, hv5⟩
  rw [HRD.out]
  obtain ⟨b5, rfl, hb5n, hs5⟩ : ∃ b, v5 = .slice (some ⟨b, 0, none⟩) 512 512 ∧ W4.heap.size ≤ b ∧ Secs W5 b [pageL pgA] := by
    rcases hv5 with ⟨-, b, e, h1, h2⟩ | ⟨h, -⟩
    · have e4 : (4 : Int).toNat = 4 := rfl
      rw [e4, HHAS.out] at h2
      exact ⟨b, e, h1, h2⟩
    · exact absurd HRD.out h
  have HL5 := Lib.hid (HL4.out.below hb5)
  have HB5 := Lib.hid (HB4.out.trans (hb5.mono HB4.out.size))
  have HG5 := Lib.hid (HG4.out.mod (F' := fun k => ¬ PI.Turn { I with sv := sv1, bv := bv1 } k) (Mod.of_below hb5 (fun _ => False)) (fun _ _ _ e => e) (fun _ _ h => h))
  have HS5 := Lib.hid hs5
  clear hb5 hv5 hb5n hs5
  go_wp2_with fail
  refine (pageParse_in W5 pgA HGA.out.1.ok HGA.out.1.fit b5 0 512 (by omega) (by omega) HS5.out.lt (HS5.out.rb HS5.out.lt)).mono ?_
  rintro e W6 ⟨p6, v6, xs6, rfl, hp6, hb6, hin6⟩
  have HL6 := Lib.hid (HL5.out.below hb6)
  have HB6 := Lib.hid (HB5.out.trans (hb6.mono HB5.out.size))
  have HG6 := Lib.hid (HG5.out.mod (F' := fun k => ¬ PI.Turn { I with sv := sv1, bv := bv1 } k) (Mod.of_below hb6 (fun _ => False)) (fun _ _ _ e => e) (fun _ _ h => h))
  have HTN5 : Hid (∀ k, W5.heap.size ≤ k → ¬ PI.Turn { I with sv := sv1, bv := bv1 } k) := Lib.hid (fun k hk e => by have := HL5.out.at_.lt k (PI.turn_core e); omega)
  have HQ6 : Hid (PgIn W6 (fun k => ¬ PI.Turn { I with sv := sv1, bv := bv1 } k) ⟨p6, v6, xs6⟩ pgA) := Lib.hid (by
    refine ⟨hp6.base' (Nat.zero_le _), HGA.out.1.fit, HTN5.out _ hp6.base, fun k hk => HTN5.out _ (hp6.row.lt k hk).1, fun j z l hz hl => ?_⟩
    have a1 := hin6 j z l hz hl
    have a2 := hp6.itemsIn j z l hz hl
    rcases a1 with a1 | a1
    · exact .inl a1
    · rcases a2 with a2 | a2
      · exact .inl a2
      · exact .inr fun b hb e => e ⟨Classical.not_not.1 (a2 b hb), HTN5.out _ (Classical.not_not.1 (a1 b hb))⟩)
  clear hp6 hb6 hin6
  go_wp2_with fail
  -- pinned, twice
  refine (Pin_live HL6.out 1 (by unfold I64; omega) (by have := HCN3.out; omega) (by have := HCN3.out; omega)).mono ?_
  rintro e W7 ⟨k7, c4, rfl, hbh, ⟨rfl, f4, i4, -, -, -, -, -, pins4, dirt4, log4, safe4, -⟩ | ⟨-, hmiss⟩⟩
  case inr => exact (no_miss hmiss (by rw [HCN3.out.1]; omega) (.inl HI3.out) (.inl HI3.out)).elim
  have HB7 := Lib.hid (below_turn HB6.out hbh.mod HI1.out)
  have HL7 : Hid (Live W7 { I with sv := sv1, bv := bv1 } (fun _ => False) c4 0 0 (disk10 [] 3).has) := Lib.hid ⟨hbh.at_, f4, hbh.late⟩
  have HCN4 : Hid (c4.o.count = 3 ∧ c4.o.base = 4 ∧ c4.fs.length = 1 ∧ c4.s.steps ≤ 900004 ∧ c4.o.turn ≤ 3) := Lib.hid (by
    obtain ⟨a1, a2, a3, a4, a5⟩ := HCN3.out
    exact ⟨hbh.count.trans a1, hbh.base.trans a2, hbh.nf.trans a3, by have := hbh.steps; omega, by have := hbh.turn; omega⟩)
  have HG7 := Lib.hid (HG6.out.mod (F' := fun k => ¬ PI.Turn { I with sv := sv1, bv := bv1 } k) hbh.mod (fun _ _ h => h) (fun _ _ h => h))
  have HQ7 := Lib.hid (HQ6.out.mod (F' := fun k => ¬ PI.Turn { I with sv := sv1, bv := bv1 } k) hbh.mod (fun _ _ h => h) (fun _ _ h => h))
  have HI4 := Lib.hid i4
  have HP4 : Hid (pinsOf c4.fs 1 = 1 ∧ dirtOf c4.fs 1 = none) := Lib.hid ⟨by rw [pins4, if_pos rfl, HP3.out.1], by
    rcases dirt4 1 with e | e
    · rw [e]; exact HP3.out.2
    · exact e⟩
  have HSF4 : Hid (A < c4.m.lsn c4.m.safe) := Lib.hid (by have h1 := lsn_le (m := c3.m) (m' := c4.m) (by rw [log4]) safe4; have := HSF3.out; omega)
  clear hbh f4 i4 pins4 dirt4 log4 safe4
  go_wp2_with fail
  refine (Pin_live HL7.out 1 (by unfold I64; omega) (by have := HCN4.out; omega) (by have := HCN4.out; omega)).mono ?_
  rintro e W8 ⟨k8, c5, rfl, hbh, ⟨rfl, f5, i5, -, -, -, -, -, pins5, dirt5, log5, safe5, -⟩ | ⟨-, hmiss⟩⟩
  case inr => exact (no_miss hmiss (by rw [HCN4.out.1]; omega) (.inl HI4.out) (.inl HI4.out)).elim
  have HB8 := Lib.hid (below_turn HB7.out hbh.mod HI1.out)
  have HL8 : Hid (Live W8 { I with sv := sv1, bv := bv1 } (fun _ => False) c5 0 0 (disk10 [] 3).has) := Lib.hid ⟨hbh.at_, f5, hbh.late⟩
  have HCN5 : Hid (c5.o.count = 3 ∧ c5.o.base = 4 ∧ c5.fs.length = 1 ∧ c5.s.steps ≤ 1200004 ∧ c5.o.turn ≤ 4) := Lib.hid (by
    obtain ⟨a1, a2, a3, a4, a5⟩ := HCN4.out
    exact ⟨hbh.count.trans a1, hbh.base.trans a2, hbh.nf.trans a3, by have := hbh.steps; omega, by have := hbh.turn; omega⟩)
  have HG8 := Lib.hid (HG7.out.mod (F' := fun k => ¬ PI.Turn { I with sv := sv1, bv := bv1 } k) hbh.mod (fun _ _ h => h) (fun _ _ h => h))
  have HQ8 := Lib.hid (HQ7.out.mod (F' := fun k => ¬ PI.Turn { I with sv := sv1, bv := bv1 } k) hbh.mod (fun _ _ h => h) (fun _ _ h => h))
  have HI5 := Lib.hid i5
  have HP5 : Hid (pinsOf c5.fs 1 = 2 ∧ dirtOf c5.fs 1 = none) := Lib.hid ⟨by rw [pins5, if_pos rfl, HP4.out.1], by
    rcases dirt5 1 with e | e
    · rw [e]; exact HP4.out.2
    · exact e⟩
  have HSF5 : Hid (A < c5.m.lsn c5.m.safe) := Lib.hid (by have h1 := lsn_le (m := c4.m) (m' := c5.m) (by rw [log5]) safe5; have := HSF4.out; omega)
  have HNF5 : Hid (¬ Free c5) := Lib.hid (single_pinned hbh.at_.shape HCN5.out.2.2.1 HI5.out (by rw [HP5.out.1]; omega))
  have HNI5 : Hid (idx c5.fs 0 = none) := Lib.hid (single HCN5.out.2.2.1 HI5.out (by omega))
  clear hbh f5 i5 pins5 dirt5 log5 safe5
  -- no frame is left
  go_wp2_with fail
  refine (Get_live HL8.out 0 (by unfold I64; omega) (by have := HCN5.out; omega) (by have := HCN5.out; omega)).mono ?_
  rintro e W9 ⟨k9, c6, hbh, ⟨-, -, -, -, N, pg, p', v', xs', -, -, hor, -⟩ | ⟨-, hmiss, rfl⟩⟩
  case inl =>
    rcases hor with h | h
    · rw [HNI5.out] at h; cases h
    · exact (HNF5.out h).elim
  obtain ⟨rfl, rfl⟩ : k9 = 100 ∧ c6 = c5 := by
    rcases hmiss with ⟨-, -, h⟩ | ⟨N, -, -, -, ⟨h1, h2, -⟩ | ⟨-, -, -, h, -⟩⟩ | ⟨-, ⟨h, -⟩, -⟩
    · exact absurd ⟨by omega, by rw [HCN5.out.1]; omega⟩ h
    · exact ⟨h1, h2⟩
    · exact absurd h HNF5.out
    · exact absurd rfl h
  have HB9 := Lib.hid (below_turn HB8.out hbh.mod HI1.out)
  have HL9 : Hid (Live W9 { I with sv := sv1, bv := bv1 } (fun _ => False) c6 0 0 (disk10 [] 3).has) := Lib.hid ⟨hbh.at_, HL8.out.fine, hbh.late⟩
  have HG9 := Lib.hid (HG8.out.mod (F' := fun k => ¬ PI.Turn { I with sv := sv1, bv := bv1 } k) hbh.mod (fun _ _ h => h) (fun _ _ h => h))
  have HQ9 := Lib.hid (HQ8.out.mod (F' := fun k => ¬ PI.Turn { I with sv := sv1, bv := bv1 } k) hbh.mod (fun _ _ h => h) (fun _ _ h => h))
  clear hbh hmiss
  go_wp2_with fail
  refine (Unpin_live HL9.out 1 (by unfold I64; omega) (by have := HCN5.out; omega)).mono ?_
  rintro e W10 ⟨k10, c7, rfl, hbh, f7, -, log7, dirt7, idx7, ⟨-, h0, -⟩ | ⟨rfl, -, pins7⟩⟩
  case inl => exact (by rw [HP5.out.1] at h0; omega : False).elim
  have HB10 := Lib.hid (below_turn HB9.out hbh.mod HI1.out)
  have HL10 : Hid (Live W10 { I with sv := sv1, bv := bv1 } (fun _ => False) c7 0 0 (disk10 [] 3).has) := Lib.hid ⟨hbh.at_, f7, hbh.late⟩
  have HG10 := Lib.hid (HG9.out.mod (F' := fun k => ¬ PI.Turn { I with sv := sv1, bv := bv1 } k) hbh.mod (fun _ _ h => h) (fun _ _ h => h))
  have HQ10 := Lib.hid (HQ9.out.mod (F' := fun k => ¬ PI.Turn { I with sv := sv1, bv := bv1 } k) hbh.mod (fun _ _ h => h) (fun _ _ h => h))
  obtain ⟨hn7, hk7⟩ := single_nums hbh.at_.uniq (hbh.nf.trans HCN5.out.2.2.1) (n := 1) (by rw [idx7]; exact HI5.out)
  have HPL : Hid (pinsL c7.fs (numsOf c7.fs) = [1]) := Lib.hid (by rw [hn7]; unfold pinsL; simp [pins7, HP5.out.1])
  have HDL : Hid (dirtyL c7.fs (numsOf c7.fs) = []) := Lib.hid (by rw [hn7]; unfold dirtyL; simp [dirt7, HP5.out.2])
  have HKL := Lib.hid hk7
  obtain ⟨SF, hSF⟩ : ∃ SF : Nat, SF = c7.m.lsn c7.m.safe := ⟨_, rfl⟩
  have hsf : A < SF := by rw [hSF, log7]; exact HSF5.out
  have hd1 : decide (A < SF) = true := by simpa using hsf
  have hd2 : decide ((A : Int) < (SF : Int)) = true := by simpa using hsf
  have HSE := Lib.hid hSF
  have HT7 : Hid (c7.o.turn ≤ 5 ∧ c7.s.steps ≤ 2000000) := Lib.hid (by have h1 := hbh.turn; have h2 := hbh.steps; have := HCN5.out; omega)
  clear hbh f7 log7 dirt7 idx7 pins7 hn7 hk7 hSF hsf hcv
  -- what is told
  go_wp2_with fail
  refine (pageLen_any W10 p3 0 v3 xs3 (PG.new 0 0) HG10.out.at_).mono ?_
  rintro e W11 ⟨rfl, rfl⟩
  go_wp2_with fail
  refine (lsn_v W10 p6 0 v6 xs6 pgA (A : Int) HQ10.out.at_ HGA.out.2.symm).mono ?_
  rintro e W11 ⟨rfl, rfl⟩
  go_wp2_with fail
  refine (logSafe_any W11 I.p I.g I.B sv1 bv1 c7.m HL10.out.at_.wal.lg).mono ?_
  rintro e W12 ⟨rfl, rfl⟩
  rw [← HSE.out]
  go_wp2_with fail
  refine (Pins_pool HL10.out.at_ (by rw [HPL.out]; simp) (by have := HT7.out; omega)).mono ?_
  rintro e W13 ⟨v13, rfl, ho13, hb13⟩
  rw [HPL.out] at ho13
  obtain ⟨A13, c13, rfl, -, -, -, -⟩ := (ho13.rk encI_len (Nat.le_refl _)).open_
  have HL13 := Lib.hid (HL10.out.below hb13)
  have HB13 := Lib.hid (HB10.out.trans (hb13.mono HB10.out.size))
  clear ho13 hb13
  go_wp2_with fail
  refine (Frames_pool HL13.out.at_).mono ?_
  rw [HKL.out]
  rintro e W14 ⟨rfl, rfl⟩
  go_wp2_with fail
  refine (Dirty_pool HL13.out.at_).mono ?_
  rintro e W15 ⟨v15, rfl, ho15, hb15⟩
  rw [HDL.out] at ho15
  obtain ⟨A15, c15, rfl, -, -, -, -⟩ := (ho15.rk encDr_len (Nat.le_refl _)).open_
  have HL15 := Lib.hid (HL13.out.below hb15)
  have HB15 := Lib.hid (HB13.out.trans (hb15.mono HB13.out.size))
  clear ho15 hb15
  go_wp2_with fail
  refine (Flush_live HL15.out (by have := HT7.out; omega)).mono ?_
  rintro e W16 ⟨k16, c16, rfl, hbh, ⟨rfl, -⟩ | ⟨-, ⟨h, -⟩, -⟩⟩
  case inr => exact absurd rfl h
  have HB16 := Lib.hid (below_turn HB15.out hbh.mod HI1.out)
  clear hbh
  go_wp2_with fail
  go_ret
  exact ⟨rfl, HB16.out⟩
end Go.Proofs.YtbagmmncjmbboaaGreat

/-
  Two pools beside each other, on disks that refuse nothing; nothing is pinned: the calls of the first.
-/
namespace Go.Proofs.YtbagmmncjmbboaaGreat
open Go.RowKit Go.Maps
set_option linter.unusedVariables false

/-- A pool that refuses nothing: eight pages, nothing pinned. -/
structure Good8 (c : CP) (was : Nat → List Nat) : Prop where
  fine : Fine c 0 0
  late : Late c was
  pins : ∀ a, pinsOf c.fs a = 0
  cnt : c.o.count = 8
  base : c.o.base = 4
  nf : 1 ≤ c.fs.length
  log : c.m.count = 4
  run : 1 ≤ c.m.run
  page : ∀ n, n < 8 → ∃ pg, PageOf (c.look n) pg
  len : c.s.safe.length = 12

/-- Two pools in memory, apart. -/
structure Two (w : World) (I J : PI) (c d : CP) (wa wb : Nat → List Nat) : Prop where
  a : PoolAt w I J.Core c
  b : PoolAt w J I.Core d
  ga : Good8 c wa
  gb : Good8 d wb

theorem Two.symm {w : World} {I J : PI} {c d : CP} {wa wb : Nat → List Nat} (h : Two w I J c d wa wb) : Two w J I d c wb wa := ⟨h.b, h.a, h.gb, h.ga⟩

section

variable {w w' : World} {I J : PI} {c c' d : CP} {wa wb : Nat → List Nat}

theorem Two.below (h : Two w I J c d wa wb) (hb : Below w.heap.size w w') : Two w' I J c d wa wb := ⟨h.a.below hb, h.b.below hb, h.ga, h.gb⟩

theorem Two.live (h : Two w I J c d wa wb) : Live w I J.Core c 0 0 wa := ⟨h.a, h.ga.fine, h.ga.late⟩

/-- A call of the first pool leaves the second one. -/
theorem Two.other (h : Two w I J c d wa wb) (hm : Mod I.Turn w w') : PoolAt w' J I.Core d :=
  h.b.later hm (fun k _ e => PI.turn_core e) (fun k hk => ⟨Nat.lt_of_lt_of_le (h.a.lt k hk) hm.size, .inl hk⟩)

theorem Two.free (h : Two w I J c d wa wb) : Free c := free_of_pins h.a.shape h.ga.nf h.ga.pins

/-- What a call of the first pool leaves of the log. -/
def LogLike (m m' : LG) : Prop := m' = { m with safe := m'.safe }

theorem Two.hit {n k : Int} (h : Two w I J c d wa wb) (hn : 0 ≤ n ∧ n < 8) (hm : Miss c 0 0 n k c') : False :=
  no_miss hm (by rw [h.ga.cnt]; exact hn) (.inr h.free) (.inr (h.ga.page n.toNat (by omega)))

theorem Two.miss {n k : Int} (h : Two w I J c d wa wb) (hn : ¬ (0 ≤ n ∧ n < 8)) (hm : Miss c 0 0 n k c') : k = 1 ∧ c' = c := by
  rcases hm with ⟨h1, h2, -⟩ | ⟨N, rfl, h4, -⟩ | ⟨-, ⟨h, -⟩, -⟩
  · exact ⟨h1, h2⟩
  · rw [h.ga.cnt] at h4; omega
  · exact absurd rfl h

theorem Two.step (h : Two w I J c d wa wb) (hb : Behind w w' I J.Core c c' wa) (hf : Fine c' 0 0) (hp : ∀ a, pinsOf c'.fs a = 0) (hl : LogLike c.m c'.m) (hpg : ∀ n, n < 8 → ∃ pg, PageOf (c'.look n) pg) : Two w' I J c' d wa wb :=
  ⟨hb.at_, h.other hb.mod, ⟨hf, hb.late, hp, hb.count.trans h.ga.cnt, hb.base.trans h.ga.base, by rw [hb.nf]; exact h.ga.nf, by rw [hl]; exact h.ga.log, by rw [hl]; exact h.ga.run, hpg, hb.len.trans h.ga.len⟩, h.gb⟩

/-- How far a pool's numbers went. -/
structure Near (c c' : CP) : Prop where
  steps : c'.s.steps ≤ c.s.steps + 300000
  turn : c'.o.turn ≤ c.o.turn + 1

theorem Near.refl (c : CP) : Near c c := ⟨by omega, by omega⟩

/-- Get of the first pool. -/
theorem Two.get (h : Two w I J c d wa wb) (n : Int) (hn64 : I64 n) (hst : c.s.steps < 900000000000000) (htn : c.o.turn < 900000000000000) :
    Calls Tryz.prog 32 #[.pointer (some ⟨I.q, 0, none⟩), .int .i64 n] w fun e w' => ∃ c', Two w' I J c' d wa wb ∧ Near c c' ∧ Mod I.Turn w w' ∧ LogLike c.m c'.m ∧ (∀ m, m < 8 → c'.look m = c.look m) ∧
      ((∃ N pg y, n = ((N : Nat) : Int) ∧ N < 8 ∧ e = .returned (.tuple #[.pointer (some ⟨y.p, 0, none⟩), .int .i64 0]) ∧ PgIn w' (fun k => w.heap.size ≤ k) y pg ∧ PageOf (c.look N) pg) ∨
       (¬ (0 ≤ n ∧ n < 8) ∧ e = .returned (.tuple #[.pointer none, .int .i64 1]))) := by
  refine (Get_live h.live n hn64 hst htn).mono ?_
  rintro e w' ⟨k, c', hb, ⟨rfl, hf, hk, -, N, pg, p', v', xs', rfl, hN, -, rfl, hpa, hit, hg, hpo⟩ | ⟨-, hm, rfl⟩⟩
  · rw [h.ga.cnt] at hN
    refine ⟨c', h.step hb hf (fun a => (hk.pins a).trans (h.ga.pins a)) hk.log.1 (fun m hm => by rw [hk.look m (by rw [h.ga.cnt]; exact hm)]; exact h.ga.page m hm), ⟨hb.steps, hb.turn⟩, hb.mod, hk.log.1, fun m hm => hk.look m (by rw [h.ga.cnt]; exact hm), .inl ⟨N, pg, ⟨p', v', xs'⟩, rfl, hN, rfl, ?_, hpo⟩⟩
    refine ⟨hpa.base' (Nat.zero_le _), hg.fit, hpa.base, fun k hk => (hpa.row.lt k hk).1, fun j z l hz hl => ?_⟩
    have a1 := hit j z l hz hl
    have a2 := hpa.itemsIn j z l hz hl
    rcases a1 with a1 | a1
    · exact .inl a1
    · rcases a2 with a2 | a2
      · exact .inl a2
      · exact .inr fun b hb e => e ⟨Classical.not_not.1 (a2 b hb), Classical.not_not.1 (a1 b hb)⟩
  · by_cases hn : 0 ≤ n ∧ n < 8
    · exact (h.hit hn hm).elim
    · obtain ⟨rfl, rfl⟩ := h.miss hn hm
      exact ⟨c', h.step hb h.ga.fine h.ga.pins rfl h.ga.page, ⟨hb.steps, hb.turn⟩, hb.mod, rfl, fun _ _ => rfl, .inr ⟨hn, rfl⟩⟩

/-- Put of the first pool. -/
theorem Two.put (h : Two w I J c d wa wb) (n : Int) (hn64 : I64 n) (hst : c.s.steps < 900000000000000) (htn : c.o.turn < 900000000000000) (y : FrM) (gm : PG) (hg : PgIn w (fun k => ¬ I.Turn k) y gm) (lsn : Int) (hlsn : 0 ≤ lsn ∧ lsn ≤ 9223372036854775807) (hlt : lsn < ((c.m.lsn c.m.st.length : Nat) : Int)) :
    Calls Tryz.prog 22 #[.pointer (some ⟨I.q, 0, none⟩), .int .i64 n, .pointer (some ⟨y.p, 0, none⟩), .int .i64 lsn] w fun e w' => ∃ c', Two w' I J c' d wa wb ∧ Near c c' ∧ Mod I.Turn w w' ∧ LogLike c.m c'.m ∧
      ((∃ N : Nat, n = (N : Int) ∧ N < 8 ∧ e = .returned (.int .i64 0) ∧ ∀ m, m < 8 → c'.look m = if m = N then pageL { gm with lsn := lsn } else c.look m) ∨
       (¬ (0 ≤ n ∧ n < 8) ∧ e = .returned (.int .i64 1) ∧ ∀ m, m < 8 → c'.look m = c.look m)) := by
  have hg2 : PgGood { gm with lsn := lsn } := by
    have h1 := hg.good
    exact ⟨⟨h1.ok.num, h1.ok.item, hlsn, h1.ok.kind, h1.ok.extra⟩, h1.fit, h1.byte⟩
  refine (Put_live h.live n hn64 hst htn y gm hg lsn hlsn hlt).mono ?_
  rintro e w' ⟨k, c', rfl, hb, ⟨rfl, hf, -, N, rfl, hN, -, hlk, hpn, -, -, hlog, -, -⟩ | ⟨-, hm⟩⟩
  · rw [h.ga.cnt] at hN hlk
    refine ⟨c', h.step hb hf (fun a => (hpn a).trans (h.ga.pins a)) hlog (fun m hm => ?_), ⟨hb.steps, hb.turn⟩, hb.mod, hlog, .inl ⟨N, rfl, hN, rfl, hlk⟩⟩
    rw [hlk m hm]
    split
    · exact ⟨_, hg2.pageOf⟩
    · exact h.ga.page m hm
  · by_cases hn : 0 ≤ n ∧ n < 8
    · exact (h.hit hn hm).elim
    · obtain ⟨rfl, rfl⟩ := h.miss hn hm
      exact ⟨c', h.step hb h.ga.fine h.ga.pins rfl h.ga.page, ⟨hb.steps, hb.turn⟩, hb.mod, rfl, .inr ⟨hn, rfl, fun _ _ => rfl⟩⟩

/-- Flush of the first pool: what it tells lies on the disk. -/
theorem Two.flush (h : Two w I J c d wa wb) (hst : c.s.steps < 900000000000000) :
    Calls Tryz.prog 25 #[.pointer (some ⟨I.q, 0, none⟩)] w fun e w' => ∃ c', e = .returned (.int .i64 0) ∧ Two w' I J c' d wa wb ∧ Near c c' ∧ Mod I.Turn w w' ∧ LogLike c.m c'.m ∧ (∀ m, m < 8 → c'.look m = c.look m) ∧ (∀ m, m < 8 → c'.s.has (4 + m) = c.look m) := by
  refine (Flush_live h.live hst).mono ?_
  rintro e w' ⟨k, c', rfl, hb, ⟨rfl, hf, hk, hd, -⟩ | ⟨-, ⟨hh, -⟩, -⟩⟩
  · have hlk : ∀ m, m < 8 → c'.look m = c.look m := fun m hm => hk.look m (by rw [h.ga.cnt]; exact hm)
    refine ⟨c', rfl, h.step hb hf (fun a => (hk.pins a).trans (h.ga.pins a)) hk.log.1 (fun m hm => by rw [hlk m hm]; exact h.ga.page m hm), ⟨hb.steps, hb.turn⟩, hb.mod, hk.log.1, hlk, fun m hm => ?_⟩
    rw [← hlk m hm]
    have hbase : c'.o.base = 4 := hb.base.trans h.ga.base
    unfold CP.look lookF
    rw [hbase]
    cases hfr : fr c'.fs (m : Int) with
    | none => rfl
    | some x =>
      have := hd (m : Int)
      unfold dirtOf at this
      rw [hfr] at this
      dsimp only
      cases hx : x.dirty with
      | false => rfl
      | true => simp [hx] at this
  · exact absurd rfl hh
end
end Go.Proofs.YtbagmmncjmbboaaGreat

/-
  Two pools: the appends of their logs, alike; both made; the calls of skeinlaw10's scripts as they come in.
-/
namespace Go.Proofs.YtbagmmncjmbboaaGreat
open Go.RowKit Go.Maps
set_option linter.unusedVariables false

/-- Two logs, alike but for how much is safe. -/
def LogEq (m m' : LG) : Prop := { m with safe := 0 } = { m' with safe := 0 }

theorem LogEq.like {m m' n n' : LG} (h : LogEq m n) (h1 : LogLike m m') (h2 : LogLike n n') : LogEq m' n' := by
  unfold LogEq at h ⊢
  unfold LogLike at h1 h2
  rw [h1, h2]
  exact h

theorem LogEq.parts {m m' : LG} (h : LogEq m m') : m.count = m'.count ∧ m.run = m'.run ∧ m.st = m'.st ∧ m.begs = m'.begs ∧ m.fresh = m'.fresh ∧ m.dead = m'.dead := by
  unfold LogEq at h
  injection h with h1 h2 h3 h4 h5 h6 h7 h8 h9
  exact ⟨h2, h3, h5, h6, h8, h9⟩

theorem LogEq.first {m m' : LG} (h : LogEq m m') : m.first = m'.first ∧ m.most = m'.most := by
  unfold LogEq at h
  injection h with h1 h2 h3 h4 h5 h6 h7 h8 h9
  exact ⟨h1, h4⟩

/-- Their appends answer alike, and leave them alike. -/
theorem LogEq.append {m m' : LG} (h : LogEq m m') (kind : Int) (body : List Nat) : (m.append kind body).2 = (m'.append kind body).2 ∧ LogEq (m.append kind body).1 (m'.append kind body).1 := by
  obtain ⟨h1, h2, h3, h4, h5, h6⟩ := h.parts
  obtain ⟨h7, h8⟩ := h.first
  have hroom : m.room = m'.room := by unfold LG.room; rw [h1, h3]
  have hlsn : ∀ a, m.lsn a = m'.lsn a := fun a => by unfold LG.lsn; rw [h2]
  unfold LG.append
  rw [h5, h6, hroom, hlsn, h3]
  split
  · exact ⟨rfl, h⟩
  · split
    · exact ⟨rfl, h⟩
    · split
      · exact ⟨rfl, h⟩
      · split
        · exact ⟨rfl, h⟩
        · split
          · exact ⟨rfl, h⟩
          · refine ⟨rfl, ?_⟩
            unfold LogEq
            dsimp only
            rw [h1, h2, h4, h7, h8]

section

variable {w w' : World} {I J : PI} {c c' d : CP} {wa wb : Nat → List Nat}

/-- An append of the first pool's log. -/
theorem Two.app (h : Two w I J c d wa wb) (v : Value) (l : List Nat) (hv : RB w w.heap.size v l) (hl : l.length ≤ 1200) :
    Calls Tryz.prog 20 #[.pointer (some ⟨I.g, 0, none⟩), .int .i64 1, v] w fun e w' => ∃ sv bv, Two w' { I with sv := sv, bv := bv } J (c.app 1 l) d wa wb ∧
      e = .returned (.tuple #[.int .i64 ((c.m.append 1 l).2.1 : Int), .int .i64 (c.m.append 1 l).2.2]) ∧ Mod (OwnL I.g I.sv I.bv) w w' ∧ (∀ m, (c.app 1 l).look m = c.look m) ∧
      (∀ k, PI.Core { I with sv := sv, bv := bv } k → I.Core k ∨ w.heap.size ≤ k) ∧
      (((c.m.append 1 l).2.2 = 0 ∧ (c.m.append 1 l).2.1 < (c.app 1 l).m.lsn (c.app 1 l).m.st.length ∧ (c.m.append 1 l).2.1 ≤ 9000000000000000000) ∨ (c.m.append 1 l).2.2 = 90) := by
  obtain ⟨hf, hlk, hsafe, hrun, hor⟩ := h.ga.fine.app l hv.1 hl
  refine (App_live h.live (by rw [h.ga.log]; omega) v l hv hl).mono ?_
  rintro e w' ⟨sv, bv, hL, rfl, hm, hcore⟩
  have hpins : ∀ a, pinsOf (c.app 1 l).fs a = 0 := h.ga.pins
  have hcount : (c.app 1 l).m.count = 4 := by
    rcases hor with ⟨-, -, -⟩ | ⟨-, e⟩
    · have : (c.m.append 1 l).1.count = c.m.count := by
        unfold LG.append
        repeat' split
        all_goals rfl
      exact this.trans h.ga.log
    · rw [e]; exact h.ga.log
  refine ⟨sv, bv, ⟨?_, ?_, ⟨hf, hL.late, hpins, h.ga.cnt, h.ga.base, h.ga.nf, hcount, by rw [hrun]; exact h.ga.run, fun m hm => by rw [hlk]; exact h.ga.page m hm, h.ga.len⟩, h.gb⟩, rfl, hm, hlk, hcore, ?_⟩
  · exact hL.at_
  · exact h.b.later hm (fun k _ e => .inr (.inl e)) (fun k hk => ⟨hL.at_.lt k hk, hcore k hk⟩)
  · rcases hor with ⟨h0, h1, h2⟩ | ⟨h0, -⟩
    · refine .inl ⟨h0, ?_, ?_⟩
      · rw [h1]; unfold LG.lsn; rw [hrun]; omega
      · rw [h1]
        have hr := h.ga.fine.log.ok.run
        have hst := h.ga.fine.log.ok.num
        unfold LG.lsn
        omega
    · exact .inr h0

/-- A pool that begins is a good one. -/
theorem Begins.good8 {was : Nat → List Nat} (h : Begins c 8 was) (hnf : 1 ≤ c.fs.length) (hwas : ∀ n, n < 8 → ∃ pg, PageOf (was (4 + n)) pg) : Good8 c was := by
  refine ⟨h.fine, ⟨h.was.mono fun i b _ hb h1 _ => .inl (hb (by rw [h.base] at h1; exact h1)), fun i x pg hx hp => by rw [h.frz i x hx] at hp; cases hp⟩, fun a => by unfold pinsOf; rw [fr_none.2 (h.idx a)]; rfl, h.cnt, h.base, hnf, h.log.2.1, h.run, fun n hn => ?_, h.len⟩
  rw [look_none (h.idx _), h.base, (h.was (4 + n) (by rw [h.len]; omega)).2 (by omega)]
  exact hwas n hn

/-- Two pools, the second one made behind the first. -/
theorem two_made {W : World} (ha : PoolAt w I (fun _ => False) c) (hb : PoolAt W J I.Core d) (hbel : Below w.heap.size w W) (hJ : ∀ k, J.Core k → w.heap.size ≤ k) (ga : Good8 c wa) (gb : Good8 d wb) : Two W I J c d wa wb :=
  ⟨ha.later (S := fun _ => False) (Mod.of_below hbel _) (fun _ _ e => e) (fun k hk => ⟨hb.lt k hk, .inr (hJ k hk)⟩), hb, ga, gb⟩
end

/-- A call of skeinlaw10's script. -/
structure OpK where
  kind : Int
  n : Int
  dA : Option Addr
  dn : Nat
  dc : Nat
  fA : Option Addr
  fn : Nat
  fc : Nat
  item : List Nat
  fates : List (Int × Int)

def encK (x : OpK) : List Value := [.int .i64 x.kind, .int .i64 x.n, .slice x.dA x.dn x.dc, .slice x.fA x.fn x.fc]

theorem encK_len (x : OpK) : (encK x).length = 4 := rfl

theorem encK_one (x : OpK) : ∀ u ∈ encK x, u.oneCell' = true := by
  intro u hu
  simp only [encK, List.mem_cons, List.not_mem_nil, or_false] at hu
  rcases hu with rfl | rfl | rfl | rfl <;> rfl

/-- What is known of a call that came in. -/
structure OpKAt (W : World) (x : OpK) : Prop where
  item : RB W W.heap.size (.slice x.dA x.dn x.dc) x.item
  n64 : I64 x.n
  k64 : I64 x.kind

theorem OpKAt.below {W W' : World} {x : OpK} (h : OpKAt W x) (hb : Below W.heap.size W W') : OpKAt W' x := ⟨(h.item.below hb).more hb.size, h.n64, h.k64⟩

/-- What is known of a script that came in. -/
structure OpsK (W : World) (v : Value) (os : List OpK) : Prop where
  rk : RK encK 4 W W.heap.size v os
  at_ : ∀ x ∈ os, OpKAt W x

theorem cellK {w : World} {b off i : Nat} {x : OpK} (h : ∀ (j : Nat) u, (encK x)[j]? = some u → w.cell? ⟨b, off + i * 4 + j, none⟩ = some u) :
    w.cell? ⟨b, off + i * 4, none⟩ = some (.int .i64 x.kind) ∧ w.cell? ⟨b, off + i * 4 + 1, none⟩ = some (.int .i64 x.n) ∧ w.cell? ⟨b, off + i * 4 + 2, none⟩ = some (.slice x.dA x.dn x.dc) ∧ w.cell? ⟨b, off + i * 4 + 3, none⟩ = some (.slice x.fA x.fn x.fc) :=
  ⟨h 0 _ rfl, h 1 _ rfl, h 2 _ rfl, h 3 _ rfl⟩
end Go.Proofs.YtbagmmncjmbboaaGreat

/-
  The walk of CacheAlike.
-/
namespace Go.Proofs.YtbagmmncjmbboaaGreat
open Go.RowKit Go.Maps
set_option linter.unusedVariables false

/-- What is so ahead of each round: two pools that tell the same. -/
structure Alike (w wr : World) (p1 g1 q1 p2 g2 q2 k : Nat) (I J : PI) (c d : CP) : Prop where
  two : Two wr I J c d (disk10 [] 8).has (disk10 [] 8).has
  log : LogEq c.m d.m
  look : ∀ m, m < 8 → c.look m = d.look m
  ia : I.p = p1 ∧ I.g = g1 ∧ I.q = q1
  ib : J.p = p2 ∧ J.g = g2 ∧ J.q = q2
  bel : Below w.heap.size w wr
  newA : ∀ k, I.Core k → w.heap.size ≤ k
  newB : ∀ k, J.Core k → w.heap.size ≤ k
  na : c.s.steps ≤ 4 + k * 1000000 ∧ c.o.turn ≤ k * 10
  nb : d.s.steps ≤ 4 + k * 1000000 ∧ d.o.turn ≤ k * 10

theorem Alike.symm {w wr : World} {p1 g1 q1 p2 g2 q2 k : Nat} {I J : PI} {c d : CP} (h : Alike w wr p1 g1 q1 p2 g2 q2 k I J c d) : Alike w wr p2 g2 q2 p1 g1 q1 k J I d c :=
  ⟨h.two.symm, h.log.symm, fun m hm => (h.look m hm).symm, h.ib, h.ia, h.bel, h.newB, h.newA, h.nb, h.na⟩

set_option maxRecDepth 100000 in
theorem Alike.more {w wr : World} {p1 g1 q1 p2 g2 q2 k k' : Nat} {I J : PI} {c d : CP} (h : Alike w wr p1 g1 q1 p2 g2 q2 k I J c d) (hk : k ≤ k') : Alike w wr p1 g1 q1 p2 g2 q2 k' I J c d :=
  ⟨h.two, h.log, h.look, h.ia, h.ib, h.bel, h.newA, h.newB, ⟨Nat.le_trans h.na.1 (Nat.add_le_add_left (Nat.mul_le_mul_right _ hk) 4), Nat.le_trans h.na.2 (Nat.mul_le_mul_right _ hk)⟩, ⟨Nat.le_trans h.nb.1 (Nat.add_le_add_left (Nat.mul_le_mul_right _ hk) 4), Nat.le_trans h.nb.2 (Nat.mul_le_mul_right _ hk)⟩⟩

theorem Alike.mem {w wr w' : World} {p1 g1 q1 p2 g2 q2 k : Nat} {I J : PI} {c d : CP} (h : Alike w wr p1 g1 q1 p2 g2 q2 k I J c d) (hb : Below wr.heap.size wr w') : Alike w w' p1 g1 q1 p2 g2 q2 k I J c d :=
  ⟨h.two.below hb, h.log, h.look, h.ia, h.ib, h.bel.trans (hb.mono h.bel.size), h.newA, h.newB, h.na, h.nb⟩

theorem begin8 (frames : Int) : Good8 (newC (begS (disk10 [] 8) 0 4) (begL (disk10 [] 8) 0 4) 4 8 (nfOf frames)) (disk10 [] 8).has ∧ (newC (begS (disk10 [] 8) 0 4) (begL (disk10 [] 8) 0 4) 4 8 (nfOf frames)).s.steps ≤ 4 ∧ (newC (begS (disk10 [] 8) 0 4) (begL (disk10 [] 8) 0 4) 4 8 (nfOf frames)).o.turn = 0 ∧ ∀ m, m < 8 → (newC (begS (disk10 [] 8) 0 4) (begL (disk10 [] 8) 0 4) 4 8 (nfOf frames)).look m = sec0 := by
  have hb := newC_begins (l := []) (count := 8) (by simp) (by omega) (nfOf frames)
  have hnf := nfOf_le frames
  refine ⟨hb.good8 (by unfold newC newFs; simp; omega) (fun n hn => by rw [disk10_blank (by omega) (by omega)]; exact ⟨_, pageOf_blank⟩), hb.steps, hb.turn, fun m hm => ?_⟩
  rw [look_none (hb.idx _), hb.base, (hb.was (4 + m) (by rw [hb.len]; omega)).2 (by omega)]
  exact disk10_blank (by omega) (by omega)

set_option maxRecDepth 100000 in
set_option maxHeartbeats 8000000 in
/-- The head: two pools that are alike. -/
theorem alike_start (w W0 W : World) (fa fb : Int) (I J : PI) (ha : PoolAt W0 I (fun _ => False) (newC (begS (disk10 [] 8) 0 4) (begL (disk10 [] 8) 0 4) 4 8 (nfOf fa))) (hb0 : Below w.heap.size w W0) (hIa : ∀ k, I.Core k → w.heap.size ≤ k)
    (hb : PoolAt W J I.Core (newC (begS (disk10 [] 8) 0 4) (begL (disk10 [] 8) 0 4) 4 8 (nfOf fb))) (hbel : Below W0.heap.size W0 W) (hJ : ∀ k, J.Core k → W0.heap.size ≤ k) :
    Alike w W I.p I.g I.q J.p J.g J.q 0 I J (newC (begS (disk10 [] 8) 0 4) (begL (disk10 [] 8) 0 4) 4 8 (nfOf fa)) (newC (begS (disk10 [] 8) 0 4) (begL (disk10 [] 8) 0 4) 4 8 (nfOf fb)) := by
  obtain ⟨a1, a2, a3, a4⟩ := begin8 fa
  obtain ⟨b1, b2, b3, b4⟩ := begin8 fb
  exact ⟨two_made ha hb hbel hJ a1 b1, rfl, fun m hm => by rw [a4 m hm, b4 m hm], ⟨rfl, rfl, rfl⟩, ⟨rfl, rfl, rfl⟩, hb0.trans (hbel.mono hb0.size), hIa, fun k hk => Nat.le_trans hb0.size (hJ k hk), ⟨by omega, by omega⟩, ⟨by omega, by omega⟩⟩

theorem pageOf_same {L L' : List Nat} {m m' : PG} (h : L = L') (h1 : PageOf L m) (h2 : PageOf L' m') : m = m' := pageOf_unique h1 (by rw [h]; exact h2)
end Go.Proofs.YtbagmmncjmbboaaGreat
