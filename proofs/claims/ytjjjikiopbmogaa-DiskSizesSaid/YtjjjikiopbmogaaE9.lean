/-
  The walk of DiskFates.
-/
import Derived.Test.YtjjjikiopbmogaaE8
namespace Go.Proofs.Ytjjjikiopbmogaa
open Go.RowKit Go.Maps
set_option linter.unusedVariables false

theorem fate_new (s : DS) (kind : Int) : (s.planned [((s.steps : Int) + 1, kind)]).fate = if 1 ≤ kind ∧ kind ≤ 3 then kind else 0 := by
  unfold DS.fate DS.planned
  dsimp only
  rw [if_neg (by omega)]
  unfold firstFate
  by_cases h : 1 ≤ kind ∧ kind ≤ 3
  · rw [if_pos h, if_pos ⟨rfl, h.1, h.2⟩]
  · rw [if_neg h, if_neg (fun e => h ⟨e.2.1, e.2.2⟩)]
    rfl
theorem fates_0 {s : DS} (f : DS → DS) (h : s.fate = 0) : s.code = 0 ∧ s.step f = f s.tick := by unfold DS.code DS.step; rw [h]; exact ⟨rfl, rfl⟩
theorem fates_1 {s : DS} (f : DS → DS) (h : s.fate = 1) : s.code = 71 ∧ s.step f = s.tick := by unfold DS.code DS.step; rw [h]; exact ⟨rfl, rfl⟩
theorem fates_2 {s : DS} (f : DS → DS) (h : s.fate = 2) : s.code = 70 ∧ s.step f = { s.tick with off := true } := by unfold DS.code DS.step; rw [h]; exact ⟨rfl, rfl⟩
theorem fates_3 {s : DS} (f : DS → DS) (h : s.fate = 3) : s.code = 70 ∧ s.step f = { f s.tick with off := true } := by unfold DS.code DS.step; rw [h]; exact ⟨rfl, rfl⟩
theorem write_is {s : DS} {i : Int} {l : List Nat} (ho : s.off = false) (hi : s.isSec i = true) (hl : l.length ≤ 512) : s.writeE i l = s.code ∧ s.write i l = s.step (DS.put i (pad l)) := by
  have hn : ¬ 512 < l.length := by omega
  unfold DS.writeE DS.write
  rw [ho, hi, if_neg hn]
  refine ⟨?_, ?_⟩
  · rfl
  · rw [if_neg hn]; rfl
theorem sync_is {s : DS} (ho : s.off = false) : s.syncE = s.code ∧ s.sync = s.step DS.settle := by
  unfold DS.syncE DS.sync
  rw [ho]
  exact ⟨rfl, rfl⟩
theorem isSec_nat {s : DS} {i : Nat} (h : i < s.safe.length) : s.isSec (i : Int) = true := by unfold DS.isSec; simp; omega
theorem off_write {s : DS} {i : Int} {l : List Nat} (h : s.off = true) : s.writeE i l = 70 ∧ s.write i l = s := by unfold DS.writeE DS.write; rw [if_pos h, if_pos h]; exact ⟨rfl, rfl⟩
theorem off_sync {s : DS} (h : s.off = true) : s.syncE = 70 ∧ s.sync = s := by unfold DS.syncE DS.sync; rw [if_pos h, if_pos h]; exact ⟨rfl, rfl⟩
theorem off_read {s : DS} {i : Int} (h : s.off = true) : s.readE i = 70 := by unfold DS.readE; rw [if_pos h]
theorem on_one {s : DS} (h : 1 < s.safe.length) : (s.on [1]).has 1 = s.has 1 := by
  have h1 : (s.on [1]).has 1 = (s.on [1]).safe.getD 1 [] := rfl
  have h2 : (s.on [1]).safe = s.kept [1] := rfl
  rw [h1, h2, List.getD, kept_get s [1] 1 h]
  simp
theorem settle_has {s : DS} {i : Nat} (h : i < s.safe.length) : s.settle.has i = s.has i := (settle_kept h).has
theorem put_has {s : DS} {i : Nat} {l : List Nat} : (DS.put (i : Int) l s).has i = l := by unfold DS.put DS.has; simp
theorem on_none_all {s : DS} (h : ∀ i, s.pend i = none) (ks : List Int) : (s.on ks).all = s.safes := by
  rw [on_all]
  have : (s.on ks).safe = s.safe := by
    have h2 : (s.on ks).safe = s.kept ks := rfl
    rw [h2]
    refine kept_ext rfl fun i hi => ?_
    have : s.has i = s.safe.getD i [] := by unfold DS.has; rw [h]; rfl
    rw [this]
    simp [List.getD, hi]
  unfold DS.safes
  rw [this]
theorem RB.nil (w : World) (B : Nat) : RB w B (.slice none 0 0) [] := ⟨by simp, by simp, none, 0, rfl, by simp, by simp, .inl rfl⟩
theorem one_fate (W : World) (a b : Int) (t : TypeId) : RF (W.alloc (.cells #[.int .i64 a, .int .i64 b] t)) (W.alloc (.cells #[.int .i64 a, .int .i64 b] t)).heap.size (.slice (some ⟨W.heap.size, 0, none⟩) 1 1) [(a, b)] := by
  refine ⟨by simp, some ⟨W.heap.size, 0, none⟩, 1, rfl, by simp, by omega, .inr ⟨W.heap.size, 0, rfl, by simp, fun i x hx j u hu => ?_⟩⟩
  match i, hx with
  | 0, hx =>
    simp at hx; subst hx
    match j, hu with
    | 0, hu => simp [encF] at hu; subst hu; simp
    | 1, hu => simp [encF] at hu; subst hu; simp
    | j + 2, hu => simp [encF] at hu
  | i + 1, hx => simp at hx
theorem one_int (W : World) (a : Int) : RI (W.alloc (.cells #[.int .i64 a] 3)) (W.alloc (.cells #[.int .i64 a] 3)).heap.size (.slice (some ⟨W.heap.size, 0, none⟩) 1 1) [a] := by
  refine ⟨by simp, some ⟨W.heap.size, 0, none⟩, 1, rfl, by simp, by omega, .inr ⟨W.heap.size, 0, rfl, by simp, fun i x hx j u hu => ?_⟩⟩
  match i, hx with
  | 0, hx =>
    simp at hx; subst hx
    match j, hu with
    | 0, hu => simp [encI] at hu; subst hu; simp
    | j + 1, hu => simp [encI] at hu
  | i + 1, hx => simp at hx
theorem RB.take {w : World} {B b off c n : Nat} {l : List Nat} (h : RB w B (.slice (some ⟨b, off, none⟩) n c) l) (hn : 512 ≤ n) (hl : l.length = n) : RB w B (.slice (some ⟨b, off, none⟩) 512 c) (l.take 512) := by
  obtain ⟨h1, h2, A, c', e, h3, h4, h5⟩ := h
  injection e with e1 e2 e3
  subst e1 e3
  have hlen : (l.take 512).length = 512 := by rw [List.length_take]; omega
  refine ⟨fun x hx => h1 x (List.mem_of_mem_take hx), by rw [hlen]; omega, some ⟨b, off, none⟩, c, by rw [hlen], by omega, h4, ?_⟩
  rcases h5 with rfl | ⟨b', off', e', hb, hc⟩
  · simp at hl; omega
  · injection e' with e'
    injection e' with e1 e2
    subst e1 e2
    refine .inr ⟨b, off, rfl, hb, fun j x hx => hc j x ?_⟩
    rw [List.getElem?_take] at hx
    split at hx
    · exact hx
    · cases hx

set_option maxRecDepth 100000 in
set_option maxHeartbeats 16000000 in
theorem diskFates_any (w : World) (bv : Value) (os : List OpV) (kind : Int) (dv0 : Value) (l : List Nat) (sync : Bool) (hs : Script w bv os) (hki : (Lit.int .i64 kind).wf = true) (hd : RB w w.heap.size dv0 l) (hdl : l.length ≤ 140737488351232) :
    Calls Try.prog 7 #[bv, .int .i64 kind, dv0, .bool sync] w fun e w' => e = .returned (.bool true) ∧ Below w.heap.size w w' := by
  obtain ⟨A, c, rfl, ha1, ha2, ha3, HA⟩ := hs.rk.open_
  obtain ⟨A3, c3, rfl, hc1, hc2, hc3, HA3⟩ := hd.open_
  obtain ⟨n, hn⟩ : ∃ n, n = l.length := ⟨_, rfl⟩
  rw [← hn] at hd hc1 hc3 ⊢
  have HSC := Lib.hid hs
  have HDD := Lib.hid hd
  have HN := Lib.hid hn
  have HKI := Lib.hid hki
  have hol := hs.len
  clear hs hd hn hki
  go_enter Try.func7, Try.ntmps7
  go_wp2_with fail
  refine (alive_any w).mono ?_
  rintro e wa ⟨rfl, hba⟩
  have HBA := Lib.hid hba
  clear hba
  go_wp2_with fail
  refine (New_any 4 wa).mono ?_
  rintro e w0 ⟨rfl, hd0, hz0, hb0⟩
  obtain ⟨p, hp⟩ : ∃ p, p = wa.heap.size + 2 := ⟨_, rfl⟩
  obtain ⟨sb, hsb⟩ : ∃ sb, sb = wa.heap.size := ⟨_, rfl⟩
  obtain ⟨mb, hmb⟩ : ∃ mb, mb = wa.heap.size + 1 := ⟨_, rfl⟩
  rw [← hp, ← hmb] at hd0
  rw [← hsb] at hd0
  rw [← hp]
  have hwa := HBA.out.size
  have hown : w.heap.size ≤ p ∧ w.heap.size ≤ sb ∧ w.heap.size ≤ mb := by omega
  have HOWN := Lib.hid hown
  have HB0 : Hid (Below w.heap.size w w0) := HBA.out.trans (hb0.mono hwa)
  have HL0 : Hid (Live w0 p sb mb w0 (DS.new 4)) := ⟨⟨none, hd0⟩, Mod.refl _ _⟩
  clear hp hsb hmb hd0 hz0 hb0 hown hwa
  go_wp2_with fail
  go_loopw [27] (fun i wr => ∃ k : Nat, k ≤ os.length ∧ i = .int .i64 k ∧ Hid (Live w0 p sb mb wr ((DS.new 4).runs (os.take k)))) (fun i wr => os.length - (intOf i).toNat)
  case atStart => exact ⟨0, Nat.zero_le _, rfl, HL0.out⟩
  case round =>
    obtain ⟨k, hkk, rfl, HL⟩ := hrel
    by_cases hkl : k < os.length
    · have hst := runs_steps0 (n := 4) HSC.out.len k
      have HST := Lib.hid hst
      clear hst
      obtain ⟨b1, o1, rfl, hb, hx⟩ := HA.out k hkl
      have hbw : Below w.heap.size w wr := Mod.own HB0.out HL.out.mod HOWN.out
      have hat := HSC.out.at_ os[k] (List.getElem_mem hkl)
      have hoff := HSC.out.offB HOWN.out (List.getElem_mem hkl)
      obtain ⟨x, hxx⟩ : ∃ x, x = os[k] := ⟨_, rfl⟩
      rw [← hxx] at hx hat hoff
      obtain ⟨y0, y1, y2, y3, y4⟩ := cellOp hx
      have z0 : wr.cell? ⟨b1, o1 + k * 5, none⟩ = _ := (hbw.cell (p := ⟨b1, o1 + k * 5, none⟩) hb).trans y0
      have z1 : wr.cell? ⟨b1, o1 + k * 5 + 1, none⟩ = _ := (hbw.cell (p := ⟨b1, o1 + k * 5 + 1, none⟩) hb).trans y1
      have z2 : wr.cell? ⟨b1, o1 + k * 5 + 2, none⟩ = _ := (hbw.cell (p := ⟨b1, o1 + k * 5 + 2, none⟩) hb).trans y2
      have z3 : wr.cell? ⟨b1, o1 + k * 5 + 3, none⟩ = _ := (hbw.cell (p := ⟨b1, o1 + k * 5 + 3, none⟩) hb).trans y3
      have z4 : wr.cell? ⟨b1, o1 + k * 5 + 4, none⟩ = _ := (hbw.cell (p := ⟨b1, o1 + k * 5 + 4, none⟩) hb).trans y4
      have HAT := Lib.hid (hat.1.below hbw)
      have hi64 := hat.2.2.1
      have hk64' := hat.2.1
      obtain ⟨D1, d1, e1, _, _, _, _⟩ := hat.1.data.open_
      obtain ⟨D2, d2, e2, _, _, _, _⟩ := hat.1.keeps.open_
      obtain ⟨D3, d3, e3, _, _, _, _⟩ := hat.1.fates.open_
      have HOFF := Lib.hid hoff
      have HXX := Lib.hid hxx
      clear y0 y1 y2 y3 y4 hx hat hoff hxx hbw
      obtain ⟨o, dv, kv, fv⟩ := x
      dsimp only at z0 z1 z2 z3 z4 e1 e2 e3 hi64 hk64'
      subst e1 e2 e3

      have hO : OpAt (wr.alloc (.cells (opC o (.slice D1 o.data.length d1) (.slice D2 o.keeps.length d2) (.slice D3 o.fates.length d3)) 37)) o (.slice D1 o.data.length d1) (.slice D2 o.keeps.length d2) (.slice D3 o.fates.length d3) := HAT.out.below ((Below.refl _ _).alloc (Nat.le_refl _) _)
      have HO := Lib.hid hO
      obtain ⟨pl, hpl⟩ := HL.out.disk
      have HPL := Lib.hid hpl
      clear hO hpl
      go_wp2_with fail
      refine (do_any _ p sb mb pl _ o _ _ _ (HPL.out.alloc _) HO.out HOFF.out (by have := HST.out; omega)).mono ?_
      intro e w1 hdo1
      have hop : os[k].op = o := by rw [← HXX.out]
      rw [← hop] at hdo1
      obtain ⟨rfl, hl1⟩ := Live.step HL.out.mod hdo1
      rw [← runs_snoc, ← List.take_succ_eq_append_getElem hkl] at hl1
      have HL1 := Lib.hid hl1
      clear hdo1 hl1 hop
      go_wp2_with fail
      go_roundw
      case rel => exact ⟨k + 1, by omega, by go_num, HL1⟩
      case measure => simp [intOf]; omega
    · obtain rfl : k = os.length := by omega
      obtain ⟨s, hs⟩ : ∃ s, s = (DS.new 4).runs (os.take os.length) := ⟨_, rfl⟩
      have hsl : s.safe.length = 4 := by rw [hs, runs_len]; rfl
      have hst : s.steps ≤ 1000000000000000 := by rw [hs]; exact runs_steps0 HSC.out.len _
      have hlive : Live w0 p sb mb wr s := by rw [hs]; exact HL.out
      have HSL := Lib.hid hsl
      have HST := Lib.hid hst
      have HV := Lib.hid hlive
      clear hs hsl hst hlive HL
      obtain ⟨pl, hpl⟩ := HV.out.disk
      have HPL := Lib.hid hpl
      clear hpl HA HSC
      go_wp2_with fail
      refine (On_any wr p sb mb pl s (.slice none 0 0) [] HPL.out (RK.nil _ _) (by simp) (.inl rfl)).mono ?_
      rintro e w1 ⟨rfl, hd1, hm1⟩
      have HD1 := Lib.hid hd1
      have HM1 := Lib.hid (HV.out.mod.trans' hm1)
      clear hd1 hm1
      go_wp2_with fail
      refine (Safe_any w1 p sb mb pl (s.on []) HD1.out).mono ?_
      rintro e w2 ⟨v12, rfl, ho12, hb12⟩
      obtain ⟨sf, hsf⟩ : ∃ sf, sf = (s.on []).safes := ⟨_, rfl⟩
      rw [← hsf] at ho12
      have HSFE := Lib.hid hsf
      have HD2 := Lib.hid (HD1.out.below hb12)
      have HM2 : Hid (Mod (Own p sb mb) w0 w2) := HM1.out.trans (Mod.of_below hb12 (fun _ => False)) (fun _ _ e => e.elim)
      have HB2 : Hid (Below w.heap.size w w2) := Mod.own HB0.out HM2.out HOWN.out
      have HSAF2 := Lib.hid ho12.rbn
      have HOFS : Hid (Off (Own p sb mb) v12 sf) := Lib.hid (.inr (fun b e h => HD1.out.own_lt (ho12.lt b e).1 h))
      obtain ⟨AS, cS, rfl, _, _, _, _⟩ := ho12.rbn.open_
      clear ho12 hb12 hsf HD1 HM1 HM2 HPL HV
      by_cases hn512 : 512 < n
      · obtain ⟨b3, o3, rfl, hb3', _, _⟩ := HA3.out 0 (by have := HN.out; omega)
        have hdt := RB.take HDD.out (by omega) HN.out.symm
        have hlt512 : (l.take 512).length = 512 := by rw [List.length_take]; have := HN.out; omega
        obtain ⟨l2, hl2⟩ : ∃ l2, l2 = l.take 512 := ⟨_, rfl⟩
        rw [← hl2] at hdt hlt512
        have HDL := Lib.hid hdt
        have HLN := Lib.hid hlt512
        have HL5 : Hid (l2.length ≤ 512) := by rw [hlt512]; exact Lib.hid (Nat.le_refl _)
        clear hdt hl2 hb3' hlt512
        go_wp2_with fail
        refine (Plan_any w2 p sb mb pl (s.on []) (.slice none 0 0) [] HD2.out (RK.nil _ _) (by simp) (.inl rfl) (by have := HST.out; have : (s.on []).steps = s.steps := rfl; omega)).mono ?_
        rintro e w3 ⟨rfl, hd3, hm3⟩
        obtain ⟨u1, hu1⟩ : ∃ u1, u1 = (s.on []).planned [] := ⟨_, rfl⟩
        have hoff1 : u1.off = false := by rw [hu1]; rfl
        have hpn1 : ∀ i, u1.pend i = none := by rw [hu1]; exact fun _ => rfl
        have hz1 : ∀ k, u1.plan k = 0 := by rw [hu1]; exact planned_nil _
        have hlen1 : u1.safe.length = 4 := by rw [hu1]; exact (on_len s []).trans HSL.out
        have hst1 : u1.steps ≤ 1000000000000000 := by rw [hu1]; exact HST.out
        have hsf1 : u1.safes = sf := by rw [hu1, HSFE.out]; rfl
        rw [← hu1] at hd3
        have HD3 := Lib.hid hd3
        have HMS3 : Hid (Mod (Own p sb mb) w2 w3) := (Mod.refl (Own p sb mb) w2).trans hm3 (fun _ _ e => .inl e)
        have HOFF1 := Lib.hid hoff1
        have HPN1 := Lib.hid hpn1
        have HZ1 := Lib.hid hz1
        have HLEN1 := Lib.hid hlen1
        have HST1 := Lib.hid hst1
        have HSF1 := Lib.hid hsf1
        clear hd3 hm3 hu1 hoff1 hpn1 hz1 hlen1 hst1 hsf1
        cases sync with
        | true =>
          go_wp2_with fail
          have hb3 : Below w.heap.size w w3 := Mod.own HB2.out HMS3.out HOWN.out
          have hdw3 : RB w3 w3.heap.size (.slice (some ⟨b3, o3, none⟩) 512 c3) l2 := (HDL.out.below hb3).more hb3.size
          have HDW3 := Lib.hid hdw3
          have hof3 : Off (fun k => k = p) (.slice (some ⟨b3, o3, none⟩) 512 c3) l2 := HDL.out.off (fun k hk e => by have := HOWN.out; omega)
          have HOF3 := Lib.hid hof3
          clear hb3 hdw3 hof3
          obtain ⟨g1, g2⟩ := write_is (s := u1) (i := 1) (l := l2) HOFF1.out (isSec_nat (i := 1) (by rw [HLEN1.out]; omega)) HL5.out
          obtain ⟨g3, g4⟩ := fates_0 (s := u1) (DS.put 1 (pad l2)) (HZ1.out _)
          rw [g3] at g1
          rw [g4] at g2
          have G1 := Lib.hid g1
          have G2 := Lib.hid g2
          clear g1 g2 g3 g4
          refine (Write_any w3 p sb mb _ u1 1 _ l2 HD3.out (by have := HST1.out; omega) HDW3.out HOF3.out).mono ?_
          rintro e w4 ⟨rfl, hd4, hm4⟩
          rw [G1.out]
          rw [G2.out] at hd4
          obtain ⟨u2, hu2⟩ : ∃ u2, u2 = DS.put 1 (pad l2) u1.tick := ⟨_, rfl⟩
          rw [← hu2] at hd4
          have hoff2 : u2.off = false := by rw [hu2]; exact HOFF1.out
          have hlen2 : u2.safe.length = 4 := by rw [hu2]; exact HLEN1.out
          have hst2 : u2.steps ≤ 1000000000000001 := by rw [hu2]; have := HST1.out; have h : (DS.put 1 (pad l2) u1.tick).steps = u1.steps + 1 := rfl; omega
          have hsf2 : u2.safes = sf := by rw [hu2]; exact HSF1.out
          have hhas2 : u2.has 1 = pad l2 := by rw [hu2]; exact put_has (s := u1.tick) (i := 1)
          have HHAS2 := Lib.hid hhas2
          have HMS4 := Lib.hid (HMS3.out.trans' hm4)
          clear hm4 hu2 hhas2
          have HD4 := Lib.hid hd4
          clear hd4
          go_wp2_with fail
          have HOFF2 := Lib.hid hoff2
          have HLEN2 := Lib.hid hlen2
          have HST2 := Lib.hid hst2
          have HSF2 := Lib.hid hsf2
          clear hoff2 hlen2 hsf2 HOFF1 HPN1 HZ1 HLEN1 HST1 HSF1 HD3 HMS3
          refine (All_any w4 p sb mb _ u2 HD4.out).mono ?_
          rintro e wA ⟨v13, rfl, ho13, hb13⟩
          have HO13 := Lib.hid ho13
          have HRW := Lib.hid ho13.rbn
          have HDA := Lib.hid (HD4.out.below hb13)
          have HMSA : Hid (Mod (Own p sb mb) w2 wA) := HMS4.out.trans (Mod.of_below hb13 (fun _ => False)) (fun _ _ e => e.elim)
          have HBA : Hid (Below w.heap.size w wA) := Mod.own HB2.out HMSA.out HOWN.out
          have HOFW : Hid (Off (Own p sb mb) v13 u2.all) := Lib.hid (.inr (fun b e h => HD4.out.own_lt (ho13.lt b e).1 h))
          have HSAFA : Hid (RB wA wA.heap.size (.slice AS sf.length cS) sf) := HSAF2.out.mod HMSA.out HOFS.out
          obtain ⟨AW, cW, rfl, _, _, _, _⟩ := ho13.rbn.open_
          clear ho13 hb13
          go_wp2_with fail
          refine (Steps_any wA p sb mb _ u2 HDA.out).mono ?_
          rintro e w6 ⟨rfl, rfl⟩
          go_wp2_with fail
          have hba6 : Below wA.heap.size wA (wA.alloc (.cells #[.int .i64 ((u2.steps : Int) + 1), .int .i64 kind] 61)) := (Below.refl _ _).alloc (Nat.le_refl _) _
          have HDB := Lib.hid (HDA.out.below hba6)
          have HM6 : Hid (Mod (Own p sb mb) wA (wA.alloc (.cells #[.int .i64 ((u2.steps : Int) + 1), .int .i64 kind] 61))) := (Mod.refl _ _).alloc _
          clear hba6
          refine (Plan_any _ p sb mb _ u2 _ [((u2.steps : Int) + 1, kind)] HDB.out (one_fate wA _ _ _) (by intro f hf; simp at hf; subst hf; have := HST2.out; exact ⟨by dsimp only; omega, by dsimp only; omega⟩) (.inr (fun b e h => by simp [Value.ownBlock] at e; have h : b = p := h; have := HDA.out.lt.1; omega)) (by have := HST2.out; omega)).mono ?_
          rintro e w7 ⟨rfl, hd7, hm7⟩
          obtain ⟨u3, hu3⟩ : ∃ u3, u3 = u2.planned [((u2.steps : Int) + 1, kind)] := ⟨_, rfl⟩
          have hft := fate_new u2 kind
          rw [← hu3] at hft hd7
          have HFT := Lib.hid hft
          have HOFF3 : Hid (u3.off = false) := by rw [hu3]; exact HOFF2.out
          have HLEN3 : Hid (u3.safe.length = 4) := by rw [hu3]; exact HLEN2.out
          have HST32 : Hid (u3.steps = u2.steps) := by rw [hu3]; exact Lib.hid rfl
          have HALL32 : Hid (u3.all = u2.all) := by rw [hu3]; exact Lib.hid rfl
          have HSAFE3 : Hid (u3.safes = sf) := by rw [hu3]; exact HSF2.out
          have HHAS3 : Hid (u3.has 1 = pad l2) := by rw [hu3]; exact HHAS2.out
          have HD7 := Lib.hid hd7
          have HMA7 : Hid (Mod (Own p sb mb) wA w7) := HM6.out.trans hm7 (fun _ _ e => .inl e)
          clear hd7 hm7 hft hu3
          go_wp2_with fail
          obtain ⟨g1, g2⟩ := sync_is HOFF3.out
          have G1 := Lib.hid g1
          have G2 := Lib.hid g2
          clear g1 g2
          refine (Sync_any w7 p sb mb _ u3 HD7.out (by have := HST2.out; have := HST32.out; omega)).mono ?_
          rintro e w8 ⟨rfl, hd8, hm8⟩
          rw [G1.out]
          rw [G2.out] at hd8
          have HMA8 := Lib.hid (HMA7.out.trans' hm8)
          have HB8 : Hid (Below w.heap.size w w8) := Mod.own HBA.out HMA8.out HOWN.out
          have HWAS8 := Lib.hid (HRW.out.mod HMA8.out HOFW.out)
          have HSAF8 := Lib.hid (HSAFA.out.mod HMA8.out HOFS.out)
          clear hm8
          by_cases hk1 : kind < 1
          · have hf : u3.fate = 0 := by rw [HFT.out, if_neg (by omega)]
            obtain ⟨f1, f2⟩ := fates_0 DS.settle hf
            rw [f1]
            rw [f2] at hd8
            have hs8 : (DS.settle u3.tick).steps = u2.steps + 1 := by rw [← HST32.out]; rfl
            have ho8 : (DS.settle u3.tick).off = false := HOFF3.out
            have HD8 := Lib.hid hd8
            have HS8 := Lib.hid hs8
            clear hd8 hs8 hf f1 f2
            have hlt1 : decide (kind < 1) = true := by simpa using hk1
            go_wp2_with fail
            refine (Power_any w8 p sb mb _ _ HD8.out).mono ?_
            rintro e w9 ⟨rfl, rfl⟩
            rw [ho8]
            go_wp2_with fail
            refine (Steps_any w8 p sb mb _ _ HD8.out).mono ?_
            rintro e w9 ⟨rfl, rfl⟩
            rw [HS8.out]
            have hcast : ((u2.steps + 1 : Nat) : Int) = (u2.steps : Int) + 1 := by omega
            rw [hcast]
            clear hcast
            go_wp2_with fail
            go_ret
            exact ⟨rfl, HB8.out⟩
          · by_cases hk3 : 3 < kind
            · have hf : u3.fate = 0 := by rw [HFT.out, if_neg (by omega)]
              obtain ⟨f1, f2⟩ := fates_0 DS.settle hf
              rw [f1]
              rw [f2] at hd8
              have hs8 : (DS.settle u3.tick).steps = u2.steps + 1 := by rw [← HST32.out]; rfl
              have ho8 : (DS.settle u3.tick).off = false := HOFF3.out
              have HD8 := Lib.hid hd8
              have HS8 := Lib.hid hs8
              clear hd8 hs8 hf f1 f2
              have hlt1 : decide (kind < 1) = false := by simpa using hk1
              have hgt3 : decide (3 < kind) = true := by simpa using hk3
              go_wp2_with fail
              refine (Power_any w8 p sb mb _ _ HD8.out).mono ?_
              rintro e w9 ⟨rfl, rfl⟩
              rw [ho8]
              go_wp2_with fail
              refine (Steps_any w8 p sb mb _ _ HD8.out).mono ?_
              rintro e w9 ⟨rfl, rfl⟩
              rw [HS8.out]
              have hcast : ((u2.steps + 1 : Nat) : Int) = (u2.steps : Int) + 1 := by omega
              rw [hcast]
              clear hcast
              go_wp2_with fail
              go_ret
              exact ⟨rfl, HB8.out⟩
            · have hkk : kind = 1 ∨ kind = 2 ∨ kind = 3 := by omega
              rcases hkk with rfl | rfl | rfl
              · have hf : u3.fate = 1 := by rw [HFT.out, if_pos (by omega)]
                obtain ⟨f1, f2⟩ := fates_1 DS.settle hf
                rw [f1]
                rw [f2] at hd8
                have hs8 : u3.tick.steps = u2.steps + 1 := by rw [← HST32.out]; rfl
                have ho8 : u3.tick.off = false := HOFF3.out
                have hal8 : u3.tick.all = u2.all := HALL32.out
                have hsf8 : u3.tick.safes = sf := HSAFE3.out
                have HD8 := Lib.hid hd8
                have HS8 := Lib.hid hs8
                have HAL8 := Lib.hid hal8
                have HSF8 := Lib.hid hsf8
                clear hd8 hs8 hf f1 f2 hal8 hsf8
                go_wp2_with fail
                refine (Power_any w8 p sb mb _ _ HD8.out).mono ?_
                rintro e w9 ⟨rfl, rfl⟩
                rw [ho8]
                go_wp2_with fail
                refine (All_any w8 p sb mb _ _ HD8.out).mono ?_
                rintro e w9 ⟨v9, rfl, ho9, hb9⟩
                rw [HAL8.out] at ho9
                have HR9 := Lib.hid ho9.rbn
                obtain ⟨A9, c9, rfl, _, _, _, _⟩ := ho9.rbn.open_
                have HWA9 := Lib.hid ((HWAS8.out.below hb9).more hb9.size)
                have HD9 := Lib.hid (HD8.out.below hb9)
                have HB9 := Lib.hid (HB8.out.trans (hb9.mono HB8.out.size))
                have HSA9 := Lib.hid ((HSAF8.out.below hb9).more hb9.size)
                clear ho9 hb9
                go_wp2_with fail
                refine (same_yes _ _ _ w9 _ HR9.out HWA9.out).mono ?_
                rintro e w10 ⟨rfl, m10, rfl⟩
                have hd10 := below_drewN w9 m10
                have HD10 := Lib.hid (HD9.out.below hd10)
                have HSA10 := Lib.hid ((HSA9.out.below hd10).more hd10.size)
                have HB10 := Lib.hid (HB9.out.trans (hd10.mono HB9.out.size))
                clear hd10
                go_wp2_with fail
                refine (Safe_any _ p sb mb _ _ HD10.out).mono ?_
                rintro e w11 ⟨v11, rfl, ho11, hb11⟩
                rw [HSF8.out] at ho11
                have HR11 := Lib.hid ho11.rbn
                obtain ⟨A11, c11, rfl, _, _, _, _⟩ := ho11.rbn.open_
                have HSA11 := Lib.hid ((HSA10.out.below hb11).more hb11.size)
                have HD11 := Lib.hid (HD10.out.below hb11)
                have HB11 := Lib.hid (HB10.out.trans (hb11.mono HB10.out.size))
                clear ho11 hb11
                go_wp2_with fail
                refine (same_yes _ _ _ w11 _ HR11.out HSA11.out).mono ?_
                rintro e w12 ⟨rfl, m12, rfl⟩
                have hd12 := below_drewN w11 m12
                have HD12 := Lib.hid (HD11.out.below hd12)
                have HB12 := Lib.hid (HB11.out.trans (hd12.mono HB11.out.size))
                clear hd12
                go_wp2_with fail
                refine (Steps_any _ p sb mb _ _ HD12.out).mono ?_
                rintro e w13 ⟨rfl, rfl⟩
                rw [HS8.out]
                have hcast : ((u2.steps + 1 : Nat) : Int) = (u2.steps : Int) + 1 := by omega
                rw [hcast]
                clear hcast
                go_wp2_with fail
                go_ret
                exact ⟨rfl, HB12.out⟩
              · have hf : u3.fate = 2 := by rw [HFT.out, if_pos (by omega)]
                obtain ⟨f1, f2⟩ := fates_2 DS.settle hf
                rw [f1]
                rw [f2] at hd8
                obtain ⟨u4, hu4⟩ : ∃ u4, u4 = { u3.tick with off := true } := ⟨_, rfl⟩
                have hs8 : u4.steps = u2.steps + 1 := by rw [hu4, ← HST32.out]; rfl
                have ho8 : u4.off = true := by rw [hu4]
                have hl8 : u4.safe.length = 4 := by rw [hu4]; exact HLEN3.out
                have hh8 : u4.has 1 = pad l2 := by rw [hu4]; exact HHAS3.out
                have HH8 := Lib.hid hh8
                clear hh8
                rw [← hu4] at hd8
                have HD8 := Lib.hid hd8
                have HS8 := Lib.hid hs8
                have HO8 := Lib.hid ho8
                have HL8 := Lib.hid hl8
                clear hd8 hs8 hf f1 f2 hu4 hl8
                go_wp2_with fail
                refine (Read_any w8 p sb mb _ u4 HD8.out 1).mono ?_
                rintro e w9 ⟨vb, rfl, hb9, hvb⟩
                rw [off_read HO8.out] at hvb ⊢
                rcases hvb with ⟨hh, _⟩ | ⟨_, rfl⟩
                · exact absurd hh (by decide)
                have HD9 := Lib.hid (HD8.out.below hb9)
                have HM9 : Hid (Mod (Own p sb mb) wA w9) := HMA8.out.trans (Mod.of_below hb9 (fun _ => False)) (fun _ _ e => e.elim)
                clear hb9
                go_wp2_with fail
                refine (Power_any w9 p sb mb _ _ HD9.out).mono ?_
                rintro e w10 ⟨rfl, rfl⟩
                rw [ho8]
                go_wp2_with fail
                refine (Write_any w9 p sb mb _ u4 2 (.slice none 0 0) [] HD9.out (by have := HS8.out; have := HST2.out; omega) (RB.nil _ _) (.inl rfl)).mono ?_
                rintro e w10 ⟨rfl, hd10, hm10⟩
                rw [(off_write (i := 2) (l := []) HO8.out).1]
                rw [(off_write (i := 2) (l := []) HO8.out).2] at hd10
                have HD10 := Lib.hid hd10
                have HM10 := Lib.hid (HM9.out.trans' hm10)
                clear hd10 hm10
                go_wp2_with fail
                refine (Sync_any w10 p sb mb _ u4 HD10.out (by have := HS8.out; have := HST2.out; omega)).mono ?_
                rintro e w11 ⟨rfl, hd11, hm11⟩
                rw [(off_sync HO8.out).1]
                rw [(off_sync HO8.out).2] at hd11
                have HD11 := Lib.hid hd11
                have HM11 := Lib.hid (HM10.out.trans' hm11)
                clear hd11 hm11
                go_wp2_with fail
                refine (Steps_any w11 p sb mb _ _ HD11.out).mono ?_
                rintro e w12 ⟨rfl, rfl⟩
                rw [HS8.out]
                have hcast : ((u2.steps + 1 : Nat) : Int) = (u2.steps : Int) + 1 := by omega
                rw [hcast]
                clear hcast
                go_wp2_with fail
                have hba : Below w11.heap.size w11 (w11.alloc (.cells #[.int .i64 1] 3)) := (Below.refl _ _).alloc (Nat.le_refl _) _
                have HD12 := Lib.hid (HD11.out.below hba)
                have HM12 : Hid (Mod (Own p sb mb) wA _) := HM11.out.trans (Mod.of_below hba (fun _ => False)) (fun _ _ e => e.elim)
                have HZ11 : Hid (¬ sb = w11.heap.size) := by have := HD11.out.lt.2.1; intro e; omega
                clear hba
                refine (On_any _ p sb mb _ u4 _ [1] HD12.out (one_int w11 1) (by intro x hx; simp at hx; subst hx; exact ⟨by omega, by omega⟩) (.inr (fun b e h => by simp [Value.ownBlock] at e; have h : b = sb := h; have := HD11.out.lt.2.1; omega))).mono ?_
                rintro e w13 ⟨rfl, hd13, hm13⟩
                have HD13 := Lib.hid hd13
                have HM13 := Lib.hid (HM12.out.trans' hm13)
                have HB13 : Hid (Below w.heap.size w w13) := Mod.own HBA.out HM13.out HOWN.out
                clear hd13 hm13
                have hre : (u4.on [1]).readE 1 = 0 := (Kept.read (s := u4.on [1]) (i := 1) ⟨by rw [on_len, HL8.out]; omega, rfl, rfl⟩ rfl)
                have HRE := Lib.hid hre
                have hhas : (u4.on [1]).has 1 = pad l2 := by rw [on_one (by rw [HL8.out]; omega)]; exact HH8.out
                have HHAS := Lib.hid hhas
                clear hre hhas
                go_wp2_with fail
                refine (Read_any w13 p sb mb _ (u4.on [1]) HD13.out 1).mono ?_
                rintro e w14 ⟨vb, rfl, hb14, hvb⟩
                rw [HRE.out] at hvb ⊢
                rcases hvb with ⟨_, b14, rfl, hb0, hsb⟩ | ⟨hh, _⟩
                · have htn : (1 : Int).toNat = 1 := rfl
                  rw [htn, HHAS.out] at hsb
                  have HR14 := Lib.hid (hsb.rb (B := w14.heap.size) hsb.lt)
                  have HB14 := Lib.hid (HB13.out.trans (hb14.mono HB13.out.size))
                  clear hsb hb0 htn hb14
                  go_wp2_with fail
                  refine (piece_head _ (pad l2) 512 w14 HR14.out (by have := HL5.out; have := HLN.out; omega)).mono ?_
                  rintro e w15 ⟨v15, rfl, ho15, hb15⟩
                  have hpp : piece (pad l2) 0 512 = l2 := by have := piece_pad l2; rw [HLN.out] at this; exact this
                  rw [hpp] at ho15
                  have HR15 := Lib.hid ho15.rbn
                  have HB15 := Lib.hid (HB14.out.trans (hb15.mono HB14.out.size))
                  have HDD15 := Lib.hid ((HDL.out.below HB15.out).more HB15.out.size)
                  obtain ⟨A15, c15, rfl, _, _, _, _⟩ := ho15.rbn.open_
                  clear ho15 hb15 hpp
                  go_wp2_with fail
                  refine (same_yes _ _ _ w15 _ HR15.out HDD15.out).mono ?_
                  rintro e w16 ⟨rfl, m16, rfl⟩
                  have hd16 := below_drewN w15 m16
                  have HB16 := Lib.hid (HB15.out.trans (hd16.mono HB15.out.size))
                  clear hd16
                  go_wp2_with fail
                  go_ret
                  exact ⟨rfl, HB16.out⟩
                · exact absurd rfl hh
              · have hf : u3.fate = 3 := by rw [HFT.out, if_pos (by omega)]
                obtain ⟨f1, f2⟩ := fates_3 DS.settle hf
                rw [f1]
                rw [f2] at hd8
                obtain ⟨u4, hu4⟩ : ∃ u4, u4 = { (DS.settle) u3.tick with off := true } := ⟨_, rfl⟩
                have hs8 : u4.steps = u2.steps + 1 := by rw [hu4, ← HST32.out]; rfl
                have ho8 : u4.off = true := by rw [hu4]
                have hl8 : u4.safe.length = 4 := by rw [hu4]; exact (settle_len u3.tick).trans HLEN3.out
                have hh8 : u4.has 1 = pad l2 := by rw [hu4]; exact (settle_has (s := u3.tick) (i := 1) (by have : u3.tick.safe.length = 4 := HLEN3.out; omega)).trans HHAS3.out
                have HH8 := Lib.hid hh8
                clear hh8
                rw [← hu4] at hd8
                have HD8 := Lib.hid hd8
                have HS8 := Lib.hid hs8
                have HO8 := Lib.hid ho8
                have HL8 := Lib.hid hl8
                clear hd8 hs8 hf f1 f2 hu4 hl8
                go_wp2_with fail
                refine (Read_any w8 p sb mb _ u4 HD8.out 1).mono ?_
                rintro e w9 ⟨vb, rfl, hb9, hvb⟩
                rw [off_read HO8.out] at hvb ⊢
                rcases hvb with ⟨hh, _⟩ | ⟨_, rfl⟩
                · exact absurd hh (by decide)
                have HD9 := Lib.hid (HD8.out.below hb9)
                have HM9 : Hid (Mod (Own p sb mb) wA w9) := HMA8.out.trans (Mod.of_below hb9 (fun _ => False)) (fun _ _ e => e.elim)
                clear hb9
                go_wp2_with fail
                refine (Power_any w9 p sb mb _ _ HD9.out).mono ?_
                rintro e w10 ⟨rfl, rfl⟩
                rw [ho8]
                go_wp2_with fail
                refine (Write_any w9 p sb mb _ u4 2 (.slice none 0 0) [] HD9.out (by have := HS8.out; have := HST2.out; omega) (RB.nil _ _) (.inl rfl)).mono ?_
                rintro e w10 ⟨rfl, hd10, hm10⟩
                rw [(off_write (i := 2) (l := []) HO8.out).1]
                rw [(off_write (i := 2) (l := []) HO8.out).2] at hd10
                have HD10 := Lib.hid hd10
                have HM10 := Lib.hid (HM9.out.trans' hm10)
                clear hd10 hm10
                go_wp2_with fail
                refine (Sync_any w10 p sb mb _ u4 HD10.out (by have := HS8.out; have := HST2.out; omega)).mono ?_
                rintro e w11 ⟨rfl, hd11, hm11⟩
                rw [(off_sync HO8.out).1]
                rw [(off_sync HO8.out).2] at hd11
                have HD11 := Lib.hid hd11
                have HM11 := Lib.hid (HM10.out.trans' hm11)
                clear hd11 hm11
                go_wp2_with fail
                refine (Steps_any w11 p sb mb _ _ HD11.out).mono ?_
                rintro e w12 ⟨rfl, rfl⟩
                rw [HS8.out]
                have hcast : ((u2.steps + 1 : Nat) : Int) = (u2.steps : Int) + 1 := by omega
                rw [hcast]
                clear hcast
                go_wp2_with fail
                have hba : Below w11.heap.size w11 (w11.alloc (.cells #[.int .i64 1] 3)) := (Below.refl _ _).alloc (Nat.le_refl _) _
                have HD12 := Lib.hid (HD11.out.below hba)
                have HM12 : Hid (Mod (Own p sb mb) wA _) := HM11.out.trans (Mod.of_below hba (fun _ => False)) (fun _ _ e => e.elim)
                have HZ11 : Hid (¬ sb = w11.heap.size) := by have := HD11.out.lt.2.1; intro e; omega
                clear hba
                refine (On_any _ p sb mb _ u4 _ [1] HD12.out (one_int w11 1) (by intro x hx; simp at hx; subst hx; exact ⟨by omega, by omega⟩) (.inr (fun b e h => by simp [Value.ownBlock] at e; have h : b = sb := h; have := HD11.out.lt.2.1; omega))).mono ?_
                rintro e w13 ⟨rfl, hd13, hm13⟩
                have HD13 := Lib.hid hd13
                have HM13 := Lib.hid (HM12.out.trans' hm13)
                have HB13 : Hid (Below w.heap.size w w13) := Mod.own HBA.out HM13.out HOWN.out
                clear hd13 hm13
                have hre : (u4.on [1]).readE 1 = 0 := (Kept.read (s := u4.on [1]) (i := 1) ⟨by rw [on_len, HL8.out]; omega, rfl, rfl⟩ rfl)
                have HRE := Lib.hid hre
                have hhas : (u4.on [1]).has 1 = pad l2 := by rw [on_one (by rw [HL8.out]; omega)]; exact HH8.out
                have HHAS := Lib.hid hhas
                clear hre hhas
                go_wp2_with fail
                refine (Read_any w13 p sb mb _ (u4.on [1]) HD13.out 1).mono ?_
                rintro e w14 ⟨vb, rfl, hb14, hvb⟩
                rw [HRE.out] at hvb ⊢
                rcases hvb with ⟨_, b14, rfl, hb0, hsb⟩ | ⟨hh, _⟩
                · have htn : (1 : Int).toNat = 1 := rfl
                  rw [htn, HHAS.out] at hsb
                  have HR14 := Lib.hid (hsb.rb (B := w14.heap.size) hsb.lt)
                  have HB14 := Lib.hid (HB13.out.trans (hb14.mono HB13.out.size))
                  clear hsb hb0 htn hb14
                  go_wp2_with fail
                  refine (piece_head _ (pad l2) 512 w14 HR14.out (by have := HL5.out; have := HLN.out; omega)).mono ?_
                  rintro e w15 ⟨v15, rfl, ho15, hb15⟩
                  have hpp : piece (pad l2) 0 512 = l2 := by have := piece_pad l2; rw [HLN.out] at this; exact this
                  rw [hpp] at ho15
                  have HR15 := Lib.hid ho15.rbn
                  have HB15 := Lib.hid (HB14.out.trans (hb15.mono HB14.out.size))
                  have HDD15 := Lib.hid ((HDL.out.below HB15.out).more HB15.out.size)
                  obtain ⟨A15, c15, rfl, _, _, _, _⟩ := ho15.rbn.open_
                  clear ho15 hb15 hpp
                  go_wp2_with fail
                  refine (same_yes _ _ _ w15 _ HR15.out HDD15.out).mono ?_
                  rintro e w16 ⟨rfl, m16, rfl⟩
                  have hd16 := below_drewN w15 m16
                  have HB16 := Lib.hid (HB15.out.trans (hd16.mono HB15.out.size))
                  clear hd16
                  go_wp2_with fail
                  go_ret
                  exact ⟨rfl, HB16.out⟩
                · exact absurd rfl hh
        | false =>
          go_wp2_with fail
          obtain ⟨u2, hu2⟩ : ∃ u2, u2 = u1 := ⟨_, rfl⟩
          rw [← hu2] at HD3 HOFF1 HPN1 HZ1 HLEN1 HST1 HSF1
          have hoff2 := HOFF1.out
          have hlen2 := HLEN1.out
          have hst2 : u2.steps ≤ 1000000000000001 := by have := HST1.out; omega
          have hsf2 := HSF1.out
          have hpn2 := HPN1.out
          have HPN2 := Lib.hid hpn2
          obtain ⟨w4, hw4⟩ : ∃ w4, w4 = w3 := ⟨_, rfl⟩
          have HD4 := HD3
          rw [← hw4] at HD4
          have HMS4 : Hid (Mod (Own p sb mb) w2 w4) := by rw [hw4]; exact HMS3.out
          rw [← hw4]
          clear hu2 hw4 hpn2
          have HOFF2 := Lib.hid hoff2
          have HLEN2 := Lib.hid hlen2
          have HST2 := Lib.hid hst2
          have HSF2 := Lib.hid hsf2
          clear hoff2 hlen2 hsf2 HOFF1 HPN1 HZ1 HLEN1 HST1 HSF1 HD3 HMS3
          refine (All_any w4 p sb mb _ u2 HD4.out).mono ?_
          rintro e wA ⟨v13, rfl, ho13, hb13⟩
          have HO13 := Lib.hid ho13
          have HRW := Lib.hid ho13.rbn
          have HDA := Lib.hid (HD4.out.below hb13)
          have HMSA : Hid (Mod (Own p sb mb) w2 wA) := HMS4.out.trans (Mod.of_below hb13 (fun _ => False)) (fun _ _ e => e.elim)
          have HBA : Hid (Below w.heap.size w wA) := Mod.own HB2.out HMSA.out HOWN.out
          have HOFW : Hid (Off (Own p sb mb) v13 u2.all) := Lib.hid (.inr (fun b e h => HD4.out.own_lt (ho13.lt b e).1 h))
          have HSAFA : Hid (RB wA wA.heap.size (.slice AS sf.length cS) sf) := HSAF2.out.mod HMSA.out HOFS.out
          obtain ⟨AW, cW, rfl, _, _, _, _⟩ := ho13.rbn.open_
          clear ho13 hb13
          go_wp2_with fail
          refine (Steps_any wA p sb mb _ u2 HDA.out).mono ?_
          rintro e w6 ⟨rfl, rfl⟩
          go_wp2_with fail
          have hba6 : Below wA.heap.size wA (wA.alloc (.cells #[.int .i64 ((u2.steps : Int) + 1), .int .i64 kind] 61)) := (Below.refl _ _).alloc (Nat.le_refl _) _
          have HDB := Lib.hid (HDA.out.below hba6)
          have HM6 : Hid (Mod (Own p sb mb) wA (wA.alloc (.cells #[.int .i64 ((u2.steps : Int) + 1), .int .i64 kind] 61))) := (Mod.refl _ _).alloc _
          clear hba6
          refine (Plan_any _ p sb mb _ u2 _ [((u2.steps : Int) + 1, kind)] HDB.out (one_fate wA _ _ _) (by intro f hf; simp at hf; subst hf; have := HST2.out; exact ⟨by dsimp only; omega, by dsimp only; omega⟩) (.inr (fun b e h => by simp [Value.ownBlock] at e; have h : b = p := h; have := HDA.out.lt.1; omega)) (by have := HST2.out; omega)).mono ?_
          rintro e w7 ⟨rfl, hd7, hm7⟩
          obtain ⟨u3, hu3⟩ : ∃ u3, u3 = u2.planned [((u2.steps : Int) + 1, kind)] := ⟨_, rfl⟩
          have hft := fate_new u2 kind
          rw [← hu3] at hft hd7
          have HFT := Lib.hid hft
          have HOFF3 : Hid (u3.off = false) := by rw [hu3]; exact HOFF2.out
          have HLEN3 : Hid (u3.safe.length = 4) := by rw [hu3]; exact HLEN2.out
          have HST32 : Hid (u3.steps = u2.steps) := by rw [hu3]; exact Lib.hid rfl
          have HALL32 : Hid (u3.all = u2.all) := by rw [hu3]; exact Lib.hid rfl
          have HSAFE3 : Hid (u3.safes = sf) := by rw [hu3]; exact HSF2.out
          have HPN3 : Hid (∀ i, u3.pend i = none) := by rw [hu3]; exact HPN2.out
          have HD7 := Lib.hid hd7
          have HMA7 : Hid (Mod (Own p sb mb) wA w7) := HM6.out.trans hm7 (fun _ _ e => .inl e)
          clear hd7 hm7 hft hu3
          have hb7 : Below w.heap.size w w7 := Mod.own HBA.out HMA7.out HOWN.out
          have hdw7 : RB w7 w7.heap.size (.slice (some ⟨b3, o3, none⟩) 512 c3) l2 := (HDL.out.below hb7).more hb7.size
          have HDW7 := Lib.hid hdw7
          have hof7 : Off (fun k => k = p) (.slice (some ⟨b3, o3, none⟩) 512 c3) l2 := HDL.out.off (fun k hk e => by have := HOWN.out; omega)
          have HOF7 := Lib.hid hof7
          clear hb7 hdw7 hof7
          obtain ⟨g1, g2⟩ := write_is (s := u3) (i := 1) (l := l2) HOFF3.out (isSec_nat (i := 1) (by rw [HLEN3.out]; omega)) HL5.out
          have G1 := Lib.hid g1
          have G2 := Lib.hid g2
          clear g1 g2
          go_wp2_with fail
          refine (Write_any w7 p sb mb _ u3 1 _ l2 HD7.out (by have := HST2.out; have := HST32.out; omega) HDW7.out HOF7.out).mono ?_
          rintro e w8 ⟨rfl, hd8, hm8⟩
          rw [G1.out]
          rw [G2.out] at hd8
          have HMA8 := Lib.hid (HMA7.out.trans' hm8)
          have HB8 : Hid (Below w.heap.size w w8) := Mod.own HBA.out HMA8.out HOWN.out
          have HWAS8 := Lib.hid (HRW.out.mod HMA8.out HOFW.out)
          have HSAF8 := Lib.hid (HSAFA.out.mod HMA8.out HOFS.out)
          clear hm8
          by_cases hk1 : kind < 1
          · have hf : u3.fate = 0 := by rw [HFT.out, if_neg (by omega)]
            obtain ⟨f1, f2⟩ := fates_0 (DS.put 1 (pad l2)) hf
            rw [f1]
            rw [f2] at hd8
            have hs8 : ((DS.put 1 (pad l2)) u3.tick).steps = u2.steps + 1 := by rw [← HST32.out]; rfl
            have ho8 : ((DS.put 1 (pad l2)) u3.tick).off = false := HOFF3.out
            have HD8 := Lib.hid hd8
            have HS8 := Lib.hid hs8
            clear hd8 hs8 hf f1 f2
            have hlt1 : decide (kind < 1) = true := by simpa using hk1
            go_wp2_with fail
            refine (Power_any w8 p sb mb _ _ HD8.out).mono ?_
            rintro e w9 ⟨rfl, rfl⟩
            rw [ho8]
            go_wp2_with fail
            refine (Steps_any w8 p sb mb _ _ HD8.out).mono ?_
            rintro e w9 ⟨rfl, rfl⟩
            rw [HS8.out]
            have hcast : ((u2.steps + 1 : Nat) : Int) = (u2.steps : Int) + 1 := by omega
            rw [hcast]
            clear hcast
            go_wp2_with fail
            go_ret
            exact ⟨rfl, HB8.out⟩
          · by_cases hk3 : 3 < kind
            · have hf : u3.fate = 0 := by rw [HFT.out, if_neg (by omega)]
              obtain ⟨f1, f2⟩ := fates_0 (DS.put 1 (pad l2)) hf
              rw [f1]
              rw [f2] at hd8
              have hs8 : ((DS.put 1 (pad l2)) u3.tick).steps = u2.steps + 1 := by rw [← HST32.out]; rfl
              have ho8 : ((DS.put 1 (pad l2)) u3.tick).off = false := HOFF3.out
              have HD8 := Lib.hid hd8
              have HS8 := Lib.hid hs8
              clear hd8 hs8 hf f1 f2
              have hlt1 : decide (kind < 1) = false := by simpa using hk1
              have hgt3 : decide (3 < kind) = true := by simpa using hk3
              go_wp2_with fail
              refine (Power_any w8 p sb mb _ _ HD8.out).mono ?_
              rintro e w9 ⟨rfl, rfl⟩
              rw [ho8]
              go_wp2_with fail
              refine (Steps_any w8 p sb mb _ _ HD8.out).mono ?_
              rintro e w9 ⟨rfl, rfl⟩
              rw [HS8.out]
              have hcast : ((u2.steps + 1 : Nat) : Int) = (u2.steps : Int) + 1 := by omega
              rw [hcast]
              clear hcast
              go_wp2_with fail
              go_ret
              exact ⟨rfl, HB8.out⟩
            · have hkk : kind = 1 ∨ kind = 2 ∨ kind = 3 := by omega
              rcases hkk with rfl | rfl | rfl
              · have hf : u3.fate = 1 := by rw [HFT.out, if_pos (by omega)]
                obtain ⟨f1, f2⟩ := fates_1 (DS.put 1 (pad l2)) hf
                rw [f1]
                rw [f2] at hd8
                have hs8 : u3.tick.steps = u2.steps + 1 := by rw [← HST32.out]; rfl
                have ho8 : u3.tick.off = false := HOFF3.out
                have hal8 : u3.tick.all = u2.all := HALL32.out
                have hsf8 : u3.tick.safes = sf := HSAFE3.out
                have HD8 := Lib.hid hd8
                have HS8 := Lib.hid hs8
                have HAL8 := Lib.hid hal8
                have HSF8 := Lib.hid hsf8
                clear hd8 hs8 hf f1 f2 hal8 hsf8
                go_wp2_with fail
                refine (Power_any w8 p sb mb _ _ HD8.out).mono ?_
                rintro e w9 ⟨rfl, rfl⟩
                rw [ho8]
                go_wp2_with fail
                refine (All_any w8 p sb mb _ _ HD8.out).mono ?_
                rintro e w9 ⟨v9, rfl, ho9, hb9⟩
                rw [HAL8.out] at ho9
                have HR9 := Lib.hid ho9.rbn
                obtain ⟨A9, c9, rfl, _, _, _, _⟩ := ho9.rbn.open_
                have HWA9 := Lib.hid ((HWAS8.out.below hb9).more hb9.size)
                have HD9 := Lib.hid (HD8.out.below hb9)
                have HB9 := Lib.hid (HB8.out.trans (hb9.mono HB8.out.size))
                have HSA9 := Lib.hid ((HSAF8.out.below hb9).more hb9.size)
                clear ho9 hb9
                go_wp2_with fail
                refine (same_yes _ _ _ w9 _ HR9.out HWA9.out).mono ?_
                rintro e w10 ⟨rfl, m10, rfl⟩
                have hd10 := below_drewN w9 m10
                have HD10 := Lib.hid (HD9.out.below hd10)
                have HSA10 := Lib.hid ((HSA9.out.below hd10).more hd10.size)
                have HB10 := Lib.hid (HB9.out.trans (hd10.mono HB9.out.size))
                clear hd10
                go_wp2_with fail
                refine (Safe_any _ p sb mb _ _ HD10.out).mono ?_
                rintro e w11 ⟨v11, rfl, ho11, hb11⟩
                rw [HSF8.out] at ho11
                have HR11 := Lib.hid ho11.rbn
                obtain ⟨A11, c11, rfl, _, _, _, _⟩ := ho11.rbn.open_
                have HSA11 := Lib.hid ((HSA10.out.below hb11).more hb11.size)
                have HD11 := Lib.hid (HD10.out.below hb11)
                have HB11 := Lib.hid (HB10.out.trans (hb11.mono HB10.out.size))
                clear ho11 hb11
                go_wp2_with fail
                refine (same_yes _ _ _ w11 _ HR11.out HSA11.out).mono ?_
                rintro e w12 ⟨rfl, m12, rfl⟩
                have hd12 := below_drewN w11 m12
                have HD12 := Lib.hid (HD11.out.below hd12)
                have HB12 := Lib.hid (HB11.out.trans (hd12.mono HB11.out.size))
                clear hd12
                go_wp2_with fail
                refine (Steps_any _ p sb mb _ _ HD12.out).mono ?_
                rintro e w13 ⟨rfl, rfl⟩
                rw [HS8.out]
                have hcast : ((u2.steps + 1 : Nat) : Int) = (u2.steps : Int) + 1 := by omega
                rw [hcast]
                clear hcast
                go_wp2_with fail
                go_ret
                exact ⟨rfl, HB12.out⟩
              · have hf : u3.fate = 2 := by rw [HFT.out, if_pos (by omega)]
                obtain ⟨f1, f2⟩ := fates_2 (DS.put 1 (pad l2)) hf
                rw [f1]
                rw [f2] at hd8
                obtain ⟨u4, hu4⟩ : ∃ u4, u4 = { u3.tick with off := true } := ⟨_, rfl⟩
                have hs8 : u4.steps = u2.steps + 1 := by rw [hu4, ← HST32.out]; rfl
                have ho8 : u4.off = true := by rw [hu4]
                have hl8 : u4.safe.length = 4 := by rw [hu4]; exact HLEN3.out
                have hp8 : (u4.on [1]).all = sf := by rw [hu4, ← HSAFE3.out]; exact on_none_all HPN3.out [1]
                have HP8 := Lib.hid hp8
                clear hp8
                rw [← hu4] at hd8
                have HD8 := Lib.hid hd8
                have HS8 := Lib.hid hs8
                have HO8 := Lib.hid ho8
                have HL8 := Lib.hid hl8
                clear hd8 hs8 hf f1 f2 hu4 hl8
                go_wp2_with fail
                refine (Read_any w8 p sb mb _ u4 HD8.out 1).mono ?_
                rintro e w9 ⟨vb, rfl, hb9, hvb⟩
                rw [off_read HO8.out] at hvb ⊢
                rcases hvb with ⟨hh, _⟩ | ⟨_, rfl⟩
                · exact absurd hh (by decide)
                have HD9 := Lib.hid (HD8.out.below hb9)
                have HM9 : Hid (Mod (Own p sb mb) wA w9) := HMA8.out.trans (Mod.of_below hb9 (fun _ => False)) (fun _ _ e => e.elim)
                clear hb9
                go_wp2_with fail
                refine (Power_any w9 p sb mb _ _ HD9.out).mono ?_
                rintro e w10 ⟨rfl, rfl⟩
                rw [ho8]
                go_wp2_with fail
                refine (Write_any w9 p sb mb _ u4 2 (.slice none 0 0) [] HD9.out (by have := HS8.out; have := HST2.out; omega) (RB.nil _ _) (.inl rfl)).mono ?_
                rintro e w10 ⟨rfl, hd10, hm10⟩
                rw [(off_write (i := 2) (l := []) HO8.out).1]
                rw [(off_write (i := 2) (l := []) HO8.out).2] at hd10
                have HD10 := Lib.hid hd10
                have HM10 := Lib.hid (HM9.out.trans' hm10)
                clear hd10 hm10
                go_wp2_with fail
                refine (Sync_any w10 p sb mb _ u4 HD10.out (by have := HS8.out; have := HST2.out; omega)).mono ?_
                rintro e w11 ⟨rfl, hd11, hm11⟩
                rw [(off_sync HO8.out).1]
                rw [(off_sync HO8.out).2] at hd11
                have HD11 := Lib.hid hd11
                have HM11 := Lib.hid (HM10.out.trans' hm11)
                clear hd11 hm11
                go_wp2_with fail
                refine (Steps_any w11 p sb mb _ _ HD11.out).mono ?_
                rintro e w12 ⟨rfl, rfl⟩
                rw [HS8.out]
                have hcast : ((u2.steps + 1 : Nat) : Int) = (u2.steps : Int) + 1 := by omega
                rw [hcast]
                clear hcast
                go_wp2_with fail
                have hba : Below w11.heap.size w11 (w11.alloc (.cells #[.int .i64 1] 3)) := (Below.refl _ _).alloc (Nat.le_refl _) _
                have HD12 := Lib.hid (HD11.out.below hba)
                have HM12 : Hid (Mod (Own p sb mb) wA _) := HM11.out.trans (Mod.of_below hba (fun _ => False)) (fun _ _ e => e.elim)
                have HZ11 : Hid (¬ sb = w11.heap.size) := by have := HD11.out.lt.2.1; intro e; omega
                clear hba
                refine (On_any _ p sb mb _ u4 _ [1] HD12.out (one_int w11 1) (by intro x hx; simp at hx; subst hx; exact ⟨by omega, by omega⟩) (.inr (fun b e h => by simp [Value.ownBlock] at e; have h : b = sb := h; have := HD11.out.lt.2.1; omega))).mono ?_
                rintro e w13 ⟨rfl, hd13, hm13⟩
                have HD13 := Lib.hid hd13
                have HM13 := Lib.hid (HM12.out.trans' hm13)
                have HB13 : Hid (Below w.heap.size w w13) := Mod.own HBA.out HM13.out HOWN.out
                clear hd13 hm13
                have HSA13 : Hid (RB w13 w13.heap.size (.slice AS sf.length cS) sf) := Lib.hid (HSAFA.out.mod HM13.out HOFS.out)
                go_wp2_with fail
                refine (All_any w13 p sb mb _ _ HD13.out).mono ?_
                rintro e w14 ⟨v14, rfl, ho14, hb14⟩
                rw [HP8.out] at ho14
                have HR14 := Lib.hid ho14.rbn
                obtain ⟨A14, c14, rfl, _, _, _, _⟩ := ho14.rbn.open_
                have HSA14 := Lib.hid ((HSA13.out.below hb14).more hb14.size)
                have HB14 := Lib.hid (HB13.out.trans (hb14.mono HB13.out.size))
                clear ho14 hb14
                go_wp2_with fail
                refine (same_yes _ _ _ w14 _ HR14.out HSA14.out).mono ?_
                rintro e w15 ⟨rfl, m15, rfl⟩
                have hd15 := below_drewN w14 m15
                have HB15 := Lib.hid (HB14.out.trans (hd15.mono HB14.out.size))
                clear hd15
                go_wp2_with fail
                go_ret
                exact ⟨rfl, HB15.out⟩
              · have hf : u3.fate = 3 := by rw [HFT.out, if_pos (by omega)]
                obtain ⟨f1, f2⟩ := fates_3 (DS.put 1 (pad l2)) hf
                rw [f1]
                rw [f2] at hd8
                obtain ⟨u4, hu4⟩ : ∃ u4, u4 = { ((DS.put 1 (pad l2))) u3.tick with off := true } := ⟨_, rfl⟩
                have hs8 : u4.steps = u2.steps + 1 := by rw [hu4, ← HST32.out]; rfl
                have ho8 : u4.off = true := by rw [hu4]
                have hl8 : u4.safe.length = 4 := by rw [hu4]; exact HLEN3.out
                have hh8 : u4.has 1 = pad l2 := by rw [hu4]; exact put_has (s := u3.tick) (i := 1)
                have HH8 := Lib.hid hh8
                clear hh8
                rw [← hu4] at hd8
                have HD8 := Lib.hid hd8
                have HS8 := Lib.hid hs8
                have HO8 := Lib.hid ho8
                have HL8 := Lib.hid hl8
                clear hd8 hs8 hf f1 f2 hu4 hl8
                go_wp2_with fail
                refine (Read_any w8 p sb mb _ u4 HD8.out 1).mono ?_
                rintro e w9 ⟨vb, rfl, hb9, hvb⟩
                rw [off_read HO8.out] at hvb ⊢
                rcases hvb with ⟨hh, _⟩ | ⟨_, rfl⟩
                · exact absurd hh (by decide)
                have HD9 := Lib.hid (HD8.out.below hb9)
                have HM9 : Hid (Mod (Own p sb mb) wA w9) := HMA8.out.trans (Mod.of_below hb9 (fun _ => False)) (fun _ _ e => e.elim)
                clear hb9
                go_wp2_with fail
                refine (Power_any w9 p sb mb _ _ HD9.out).mono ?_
                rintro e w10 ⟨rfl, rfl⟩
                rw [ho8]
                go_wp2_with fail
                refine (Write_any w9 p sb mb _ u4 2 (.slice none 0 0) [] HD9.out (by have := HS8.out; have := HST2.out; omega) (RB.nil _ _) (.inl rfl)).mono ?_
                rintro e w10 ⟨rfl, hd10, hm10⟩
                rw [(off_write (i := 2) (l := []) HO8.out).1]
                rw [(off_write (i := 2) (l := []) HO8.out).2] at hd10
                have HD10 := Lib.hid hd10
                have HM10 := Lib.hid (HM9.out.trans' hm10)
                clear hd10 hm10
                go_wp2_with fail
                refine (Sync_any w10 p sb mb _ u4 HD10.out (by have := HS8.out; have := HST2.out; omega)).mono ?_
                rintro e w11 ⟨rfl, hd11, hm11⟩
                rw [(off_sync HO8.out).1]
                rw [(off_sync HO8.out).2] at hd11
                have HD11 := Lib.hid hd11
                have HM11 := Lib.hid (HM10.out.trans' hm11)
                clear hd11 hm11
                go_wp2_with fail
                refine (Steps_any w11 p sb mb _ _ HD11.out).mono ?_
                rintro e w12 ⟨rfl, rfl⟩
                rw [HS8.out]
                have hcast : ((u2.steps + 1 : Nat) : Int) = (u2.steps : Int) + 1 := by omega
                rw [hcast]
                clear hcast
                go_wp2_with fail
                have hba : Below w11.heap.size w11 (w11.alloc (.cells #[.int .i64 1] 3)) := (Below.refl _ _).alloc (Nat.le_refl _) _
                have HD12 := Lib.hid (HD11.out.below hba)
                have HM12 : Hid (Mod (Own p sb mb) wA _) := HM11.out.trans (Mod.of_below hba (fun _ => False)) (fun _ _ e => e.elim)
                have HZ11 : Hid (¬ sb = w11.heap.size) := by have := HD11.out.lt.2.1; intro e; omega
                clear hba
                refine (On_any _ p sb mb _ u4 _ [1] HD12.out (one_int w11 1) (by intro x hx; simp at hx; subst hx; exact ⟨by omega, by omega⟩) (.inr (fun b e h => by simp [Value.ownBlock] at e; have h : b = sb := h; have := HD11.out.lt.2.1; omega))).mono ?_
                rintro e w13 ⟨rfl, hd13, hm13⟩
                have HD13 := Lib.hid hd13
                have HM13 := Lib.hid (HM12.out.trans' hm13)
                have HB13 : Hid (Below w.heap.size w w13) := Mod.own HBA.out HM13.out HOWN.out
                clear hd13 hm13
                have hre : (u4.on [1]).readE 1 = 0 := (Kept.read (s := u4.on [1]) (i := 1) ⟨by rw [on_len, HL8.out]; omega, rfl, rfl⟩ rfl)
                have HRE := Lib.hid hre
                have hhas : (u4.on [1]).has 1 = pad l2 := by rw [on_one (by rw [HL8.out]; omega)]; exact HH8.out
                have HHAS := Lib.hid hhas
                clear hre hhas
                go_wp2_with fail
                refine (Read_any w13 p sb mb _ (u4.on [1]) HD13.out 1).mono ?_
                rintro e w14 ⟨vb, rfl, hb14, hvb⟩
                rw [HRE.out] at hvb ⊢
                rcases hvb with ⟨_, b14, rfl, hb0, hsb⟩ | ⟨hh, _⟩
                · have htn : (1 : Int).toNat = 1 := rfl
                  rw [htn, HHAS.out] at hsb
                  have HR14 := Lib.hid (hsb.rb (B := w14.heap.size) hsb.lt)
                  have HB14 := Lib.hid (HB13.out.trans (hb14.mono HB13.out.size))
                  clear hsb hb0 htn hb14
                  go_wp2_with fail
                  refine (piece_head _ (pad l2) 512 w14 HR14.out (by have := HL5.out; have := HLN.out; omega)).mono ?_
                  rintro e w15 ⟨v15, rfl, ho15, hb15⟩
                  have hpp : piece (pad l2) 0 512 = l2 := by have := piece_pad l2; rw [HLN.out] at this; exact this
                  rw [hpp] at ho15
                  have HR15 := Lib.hid ho15.rbn
                  have HB15 := Lib.hid (HB14.out.trans (hb15.mono HB14.out.size))
                  have HDD15 := Lib.hid ((HDL.out.below HB15.out).more HB15.out.size)
                  obtain ⟨A15, c15, rfl, _, _, _, _⟩ := ho15.rbn.open_
                  clear ho15 hb15 hpp
                  go_wp2_with fail
                  refine (same_yes _ _ _ w15 _ HR15.out HDD15.out).mono ?_
                  rintro e w16 ⟨rfl, m16, rfl⟩
                  have hd16 := below_drewN w15 m16
                  have HB16 := Lib.hid (HB15.out.trans (hd16.mono HB15.out.size))
                  clear hd16
                  go_wp2_with fail
                  go_ret
                  exact ⟨rfl, HB16.out⟩
                · exact absurd rfl hh
      · have HLN : Hid (l.length = n) := HN.out.symm
        have HL5 : Hid (l.length ≤ 512) := by rw [← HN.out]; exact Lib.hid (by omega)
        go_wp2_with fail
        refine (Plan_any w2 p sb mb pl (s.on []) (.slice none 0 0) [] HD2.out (RK.nil _ _) (by simp) (.inl rfl) (by have := HST.out; have : (s.on []).steps = s.steps := rfl; omega)).mono ?_
        rintro e w3 ⟨rfl, hd3, hm3⟩
        obtain ⟨u1, hu1⟩ : ∃ u1, u1 = (s.on []).planned [] := ⟨_, rfl⟩
        have hoff1 : u1.off = false := by rw [hu1]; rfl
        have hpn1 : ∀ i, u1.pend i = none := by rw [hu1]; exact fun _ => rfl
        have hz1 : ∀ k, u1.plan k = 0 := by rw [hu1]; exact planned_nil _
        have hlen1 : u1.safe.length = 4 := by rw [hu1]; exact (on_len s []).trans HSL.out
        have hst1 : u1.steps ≤ 1000000000000000 := by rw [hu1]; exact HST.out
        have hsf1 : u1.safes = sf := by rw [hu1, HSFE.out]; rfl
        rw [← hu1] at hd3
        have HD3 := Lib.hid hd3
        have HMS3 : Hid (Mod (Own p sb mb) w2 w3) := (Mod.refl (Own p sb mb) w2).trans hm3 (fun _ _ e => .inl e)
        have HOFF1 := Lib.hid hoff1
        have HPN1 := Lib.hid hpn1
        have HZ1 := Lib.hid hz1
        have HLEN1 := Lib.hid hlen1
        have HST1 := Lib.hid hst1
        have HSF1 := Lib.hid hsf1
        clear hd3 hm3 hu1 hoff1 hpn1 hz1 hlen1 hst1 hsf1
        cases sync with
        | true =>
          go_wp2_with fail
          have hb3 : Below w.heap.size w w3 := Mod.own HB2.out HMS3.out HOWN.out
          have hdw3 : RB w3 w3.heap.size (.slice A3 n c3) l := (HDD.out.below hb3).more hb3.size
          have HDW3 := Lib.hid hdw3
          have hof3 : Off (fun k => k = p) (.slice A3 n c3) l := HDD.out.off (fun k hk e => by have := HOWN.out; omega)
          have HOF3 := Lib.hid hof3
          clear hb3 hdw3 hof3
          obtain ⟨g1, g2⟩ := write_is (s := u1) (i := 1) (l := l) HOFF1.out (isSec_nat (i := 1) (by rw [HLEN1.out]; omega)) HL5.out
          obtain ⟨g3, g4⟩ := fates_0 (s := u1) (DS.put 1 (pad l)) (HZ1.out _)
          rw [g3] at g1
          rw [g4] at g2
          have G1 := Lib.hid g1
          have G2 := Lib.hid g2
          clear g1 g2 g3 g4
          refine (Write_any w3 p sb mb _ u1 1 _ l HD3.out (by have := HST1.out; omega) HDW3.out HOF3.out).mono ?_
          rintro e w4 ⟨rfl, hd4, hm4⟩
          rw [G1.out]
          rw [G2.out] at hd4
          obtain ⟨u2, hu2⟩ : ∃ u2, u2 = DS.put 1 (pad l) u1.tick := ⟨_, rfl⟩
          rw [← hu2] at hd4
          have hoff2 : u2.off = false := by rw [hu2]; exact HOFF1.out
          have hlen2 : u2.safe.length = 4 := by rw [hu2]; exact HLEN1.out
          have hst2 : u2.steps ≤ 1000000000000001 := by rw [hu2]; have := HST1.out; have h : (DS.put 1 (pad l) u1.tick).steps = u1.steps + 1 := rfl; omega
          have hsf2 : u2.safes = sf := by rw [hu2]; exact HSF1.out
          have hhas2 : u2.has 1 = pad l := by rw [hu2]; exact put_has (s := u1.tick) (i := 1)
          have HHAS2 := Lib.hid hhas2
          have HMS4 := Lib.hid (HMS3.out.trans' hm4)
          clear hm4 hu2 hhas2
          have HD4 := Lib.hid hd4
          clear hd4
          go_wp2_with fail
          have HOFF2 := Lib.hid hoff2
          have HLEN2 := Lib.hid hlen2
          have HST2 := Lib.hid hst2
          have HSF2 := Lib.hid hsf2
          clear hoff2 hlen2 hsf2 HOFF1 HPN1 HZ1 HLEN1 HST1 HSF1 HD3 HMS3
          refine (All_any w4 p sb mb _ u2 HD4.out).mono ?_
          rintro e wA ⟨v13, rfl, ho13, hb13⟩
          have HO13 := Lib.hid ho13
          have HRW := Lib.hid ho13.rbn
          have HDA := Lib.hid (HD4.out.below hb13)
          have HMSA : Hid (Mod (Own p sb mb) w2 wA) := HMS4.out.trans (Mod.of_below hb13 (fun _ => False)) (fun _ _ e => e.elim)
          have HBA : Hid (Below w.heap.size w wA) := Mod.own HB2.out HMSA.out HOWN.out
          have HOFW : Hid (Off (Own p sb mb) v13 u2.all) := Lib.hid (.inr (fun b e h => HD4.out.own_lt (ho13.lt b e).1 h))
          have HSAFA : Hid (RB wA wA.heap.size (.slice AS sf.length cS) sf) := HSAF2.out.mod HMSA.out HOFS.out
          obtain ⟨AW, cW, rfl, _, _, _, _⟩ := ho13.rbn.open_
          clear ho13 hb13
          go_wp2_with fail
          refine (Steps_any wA p sb mb _ u2 HDA.out).mono ?_
          rintro e w6 ⟨rfl, rfl⟩
          go_wp2_with fail
          have hba6 : Below wA.heap.size wA (wA.alloc (.cells #[.int .i64 ((u2.steps : Int) + 1), .int .i64 kind] 61)) := (Below.refl _ _).alloc (Nat.le_refl _) _
          have HDB := Lib.hid (HDA.out.below hba6)
          have HM6 : Hid (Mod (Own p sb mb) wA (wA.alloc (.cells #[.int .i64 ((u2.steps : Int) + 1), .int .i64 kind] 61))) := (Mod.refl _ _).alloc _
          clear hba6
          refine (Plan_any _ p sb mb _ u2 _ [((u2.steps : Int) + 1, kind)] HDB.out (one_fate wA _ _ _) (by intro f hf; simp at hf; subst hf; have := HST2.out; exact ⟨by dsimp only; omega, by dsimp only; omega⟩) (.inr (fun b e h => by simp [Value.ownBlock] at e; have h : b = p := h; have := HDA.out.lt.1; omega)) (by have := HST2.out; omega)).mono ?_
          rintro e w7 ⟨rfl, hd7, hm7⟩
          obtain ⟨u3, hu3⟩ : ∃ u3, u3 = u2.planned [((u2.steps : Int) + 1, kind)] := ⟨_, rfl⟩
          have hft := fate_new u2 kind
          rw [← hu3] at hft hd7
          have HFT := Lib.hid hft
          have HOFF3 : Hid (u3.off = false) := by rw [hu3]; exact HOFF2.out
          have HLEN3 : Hid (u3.safe.length = 4) := by rw [hu3]; exact HLEN2.out
          have HST32 : Hid (u3.steps = u2.steps) := by rw [hu3]; exact Lib.hid rfl
          have HALL32 : Hid (u3.all = u2.all) := by rw [hu3]; exact Lib.hid rfl
          have HSAFE3 : Hid (u3.safes = sf) := by rw [hu3]; exact HSF2.out
          have HHAS3 : Hid (u3.has 1 = pad l) := by rw [hu3]; exact HHAS2.out
          have HD7 := Lib.hid hd7
          have HMA7 : Hid (Mod (Own p sb mb) wA w7) := HM6.out.trans hm7 (fun _ _ e => .inl e)
          clear hd7 hm7 hft hu3
          go_wp2_with fail
          obtain ⟨g1, g2⟩ := sync_is HOFF3.out
          have G1 := Lib.hid g1
          have G2 := Lib.hid g2
          clear g1 g2
          refine (Sync_any w7 p sb mb _ u3 HD7.out (by have := HST2.out; have := HST32.out; omega)).mono ?_
          rintro e w8 ⟨rfl, hd8, hm8⟩
          rw [G1.out]
          rw [G2.out] at hd8
          have HMA8 := Lib.hid (HMA7.out.trans' hm8)
          have HB8 : Hid (Below w.heap.size w w8) := Mod.own HBA.out HMA8.out HOWN.out
          have HWAS8 := Lib.hid (HRW.out.mod HMA8.out HOFW.out)
          have HSAF8 := Lib.hid (HSAFA.out.mod HMA8.out HOFS.out)
          clear hm8
          by_cases hk1 : kind < 1
          · have hf : u3.fate = 0 := by rw [HFT.out, if_neg (by omega)]
            obtain ⟨f1, f2⟩ := fates_0 DS.settle hf
            rw [f1]
            rw [f2] at hd8
            have hs8 : (DS.settle u3.tick).steps = u2.steps + 1 := by rw [← HST32.out]; rfl
            have ho8 : (DS.settle u3.tick).off = false := HOFF3.out
            have HD8 := Lib.hid hd8
            have HS8 := Lib.hid hs8
            clear hd8 hs8 hf f1 f2
            have hlt1 : decide (kind < 1) = true := by simpa using hk1
            go_wp2_with fail
            refine (Power_any w8 p sb mb _ _ HD8.out).mono ?_
            rintro e w9 ⟨rfl, rfl⟩
            rw [ho8]
            go_wp2_with fail
            refine (Steps_any w8 p sb mb _ _ HD8.out).mono ?_
            rintro e w9 ⟨rfl, rfl⟩
            rw [HS8.out]
            have hcast : ((u2.steps + 1 : Nat) : Int) = (u2.steps : Int) + 1 := by omega
            rw [hcast]
            clear hcast
            go_wp2_with fail
            go_ret
            exact ⟨rfl, HB8.out⟩
          · by_cases hk3 : 3 < kind
            · have hf : u3.fate = 0 := by rw [HFT.out, if_neg (by omega)]
              obtain ⟨f1, f2⟩ := fates_0 DS.settle hf
              rw [f1]
              rw [f2] at hd8
              have hs8 : (DS.settle u3.tick).steps = u2.steps + 1 := by rw [← HST32.out]; rfl
              have ho8 : (DS.settle u3.tick).off = false := HOFF3.out
              have HD8 := Lib.hid hd8
              have HS8 := Lib.hid hs8
              clear hd8 hs8 hf f1 f2
              have hlt1 : decide (kind < 1) = false := by simpa using hk1
              have hgt3 : decide (3 < kind) = true := by simpa using hk3
              go_wp2_with fail
              refine (Power_any w8 p sb mb _ _ HD8.out).mono ?_
              rintro e w9 ⟨rfl, rfl⟩
              rw [ho8]
              go_wp2_with fail
              refine (Steps_any w8 p sb mb _ _ HD8.out).mono ?_
              rintro e w9 ⟨rfl, rfl⟩
              rw [HS8.out]
              have hcast : ((u2.steps + 1 : Nat) : Int) = (u2.steps : Int) + 1 := by omega
              rw [hcast]
              clear hcast
              go_wp2_with fail
              go_ret
              exact ⟨rfl, HB8.out⟩
            · have hkk : kind = 1 ∨ kind = 2 ∨ kind = 3 := by omega
              rcases hkk with rfl | rfl | rfl
              · have hf : u3.fate = 1 := by rw [HFT.out, if_pos (by omega)]
                obtain ⟨f1, f2⟩ := fates_1 DS.settle hf
                rw [f1]
                rw [f2] at hd8
                have hs8 : u3.tick.steps = u2.steps + 1 := by rw [← HST32.out]; rfl
                have ho8 : u3.tick.off = false := HOFF3.out
                have hal8 : u3.tick.all = u2.all := HALL32.out
                have hsf8 : u3.tick.safes = sf := HSAFE3.out
                have HD8 := Lib.hid hd8
                have HS8 := Lib.hid hs8
                have HAL8 := Lib.hid hal8
                have HSF8 := Lib.hid hsf8
                clear hd8 hs8 hf f1 f2 hal8 hsf8
                go_wp2_with fail
                refine (Power_any w8 p sb mb _ _ HD8.out).mono ?_
                rintro e w9 ⟨rfl, rfl⟩
                rw [ho8]
                go_wp2_with fail
                refine (All_any w8 p sb mb _ _ HD8.out).mono ?_
                rintro e w9 ⟨v9, rfl, ho9, hb9⟩
                rw [HAL8.out] at ho9
                have HR9 := Lib.hid ho9.rbn
                obtain ⟨A9, c9, rfl, _, _, _, _⟩ := ho9.rbn.open_
                have HWA9 := Lib.hid ((HWAS8.out.below hb9).more hb9.size)
                have HD9 := Lib.hid (HD8.out.below hb9)
                have HB9 := Lib.hid (HB8.out.trans (hb9.mono HB8.out.size))
                have HSA9 := Lib.hid ((HSAF8.out.below hb9).more hb9.size)
                clear ho9 hb9
                go_wp2_with fail
                refine (same_yes _ _ _ w9 _ HR9.out HWA9.out).mono ?_
                rintro e w10 ⟨rfl, m10, rfl⟩
                have hd10 := below_drewN w9 m10
                have HD10 := Lib.hid (HD9.out.below hd10)
                have HSA10 := Lib.hid ((HSA9.out.below hd10).more hd10.size)
                have HB10 := Lib.hid (HB9.out.trans (hd10.mono HB9.out.size))
                clear hd10
                go_wp2_with fail
                refine (Safe_any _ p sb mb _ _ HD10.out).mono ?_
                rintro e w11 ⟨v11, rfl, ho11, hb11⟩
                rw [HSF8.out] at ho11
                have HR11 := Lib.hid ho11.rbn
                obtain ⟨A11, c11, rfl, _, _, _, _⟩ := ho11.rbn.open_
                have HSA11 := Lib.hid ((HSA10.out.below hb11).more hb11.size)
                have HD11 := Lib.hid (HD10.out.below hb11)
                have HB11 := Lib.hid (HB10.out.trans (hb11.mono HB10.out.size))
                clear ho11 hb11
                go_wp2_with fail
                refine (same_yes _ _ _ w11 _ HR11.out HSA11.out).mono ?_
                rintro e w12 ⟨rfl, m12, rfl⟩
                have hd12 := below_drewN w11 m12
                have HD12 := Lib.hid (HD11.out.below hd12)
                have HB12 := Lib.hid (HB11.out.trans (hd12.mono HB11.out.size))
                clear hd12
                go_wp2_with fail
                refine (Steps_any _ p sb mb _ _ HD12.out).mono ?_
                rintro e w13 ⟨rfl, rfl⟩
                rw [HS8.out]
                have hcast : ((u2.steps + 1 : Nat) : Int) = (u2.steps : Int) + 1 := by omega
                rw [hcast]
                clear hcast
                go_wp2_with fail
                go_ret
                exact ⟨rfl, HB12.out⟩
              · have hf : u3.fate = 2 := by rw [HFT.out, if_pos (by omega)]
                obtain ⟨f1, f2⟩ := fates_2 DS.settle hf
                rw [f1]
                rw [f2] at hd8
                obtain ⟨u4, hu4⟩ : ∃ u4, u4 = { u3.tick with off := true } := ⟨_, rfl⟩
                have hs8 : u4.steps = u2.steps + 1 := by rw [hu4, ← HST32.out]; rfl
                have ho8 : u4.off = true := by rw [hu4]
                have hl8 : u4.safe.length = 4 := by rw [hu4]; exact HLEN3.out
                have hh8 : u4.has 1 = pad l := by rw [hu4]; exact HHAS3.out
                have HH8 := Lib.hid hh8
                clear hh8
                rw [← hu4] at hd8
                have HD8 := Lib.hid hd8
                have HS8 := Lib.hid hs8
                have HO8 := Lib.hid ho8
                have HL8 := Lib.hid hl8
                clear hd8 hs8 hf f1 f2 hu4 hl8
                go_wp2_with fail
                refine (Read_any w8 p sb mb _ u4 HD8.out 1).mono ?_
                rintro e w9 ⟨vb, rfl, hb9, hvb⟩
                rw [off_read HO8.out] at hvb ⊢
                rcases hvb with ⟨hh, _⟩ | ⟨_, rfl⟩
                · exact absurd hh (by decide)
                have HD9 := Lib.hid (HD8.out.below hb9)
                have HM9 : Hid (Mod (Own p sb mb) wA w9) := HMA8.out.trans (Mod.of_below hb9 (fun _ => False)) (fun _ _ e => e.elim)
                clear hb9
                go_wp2_with fail
                refine (Power_any w9 p sb mb _ _ HD9.out).mono ?_
                rintro e w10 ⟨rfl, rfl⟩
                rw [ho8]
                go_wp2_with fail
                refine (Write_any w9 p sb mb _ u4 2 (.slice none 0 0) [] HD9.out (by have := HS8.out; have := HST2.out; omega) (RB.nil _ _) (.inl rfl)).mono ?_
                rintro e w10 ⟨rfl, hd10, hm10⟩
                rw [(off_write (i := 2) (l := []) HO8.out).1]
                rw [(off_write (i := 2) (l := []) HO8.out).2] at hd10
                have HD10 := Lib.hid hd10
                have HM10 := Lib.hid (HM9.out.trans' hm10)
                clear hd10 hm10
                go_wp2_with fail
                refine (Sync_any w10 p sb mb _ u4 HD10.out (by have := HS8.out; have := HST2.out; omega)).mono ?_
                rintro e w11 ⟨rfl, hd11, hm11⟩
                rw [(off_sync HO8.out).1]
                rw [(off_sync HO8.out).2] at hd11
                have HD11 := Lib.hid hd11
                have HM11 := Lib.hid (HM10.out.trans' hm11)
                clear hd11 hm11
                go_wp2_with fail
                refine (Steps_any w11 p sb mb _ _ HD11.out).mono ?_
                rintro e w12 ⟨rfl, rfl⟩
                rw [HS8.out]
                have hcast : ((u2.steps + 1 : Nat) : Int) = (u2.steps : Int) + 1 := by omega
                rw [hcast]
                clear hcast
                go_wp2_with fail
                have hba : Below w11.heap.size w11 (w11.alloc (.cells #[.int .i64 1] 3)) := (Below.refl _ _).alloc (Nat.le_refl _) _
                have HD12 := Lib.hid (HD11.out.below hba)
                have HM12 : Hid (Mod (Own p sb mb) wA _) := HM11.out.trans (Mod.of_below hba (fun _ => False)) (fun _ _ e => e.elim)
                have HZ11 : Hid (¬ sb = w11.heap.size) := by have := HD11.out.lt.2.1; intro e; omega
                clear hba
                refine (On_any _ p sb mb _ u4 _ [1] HD12.out (one_int w11 1) (by intro x hx; simp at hx; subst hx; exact ⟨by omega, by omega⟩) (.inr (fun b e h => by simp [Value.ownBlock] at e; have h : b = sb := h; have := HD11.out.lt.2.1; omega))).mono ?_
                rintro e w13 ⟨rfl, hd13, hm13⟩
                have HD13 := Lib.hid hd13
                have HM13 := Lib.hid (HM12.out.trans' hm13)
                have HB13 : Hid (Below w.heap.size w w13) := Mod.own HBA.out HM13.out HOWN.out
                clear hd13 hm13
                have hre : (u4.on [1]).readE 1 = 0 := (Kept.read (s := u4.on [1]) (i := 1) ⟨by rw [on_len, HL8.out]; omega, rfl, rfl⟩ rfl)
                have HRE := Lib.hid hre
                have hhas : (u4.on [1]).has 1 = pad l := by rw [on_one (by rw [HL8.out]; omega)]; exact HH8.out
                have HHAS := Lib.hid hhas
                clear hre hhas
                go_wp2_with fail
                refine (Read_any w13 p sb mb _ (u4.on [1]) HD13.out 1).mono ?_
                rintro e w14 ⟨vb, rfl, hb14, hvb⟩
                rw [HRE.out] at hvb ⊢
                rcases hvb with ⟨_, b14, rfl, hb0, hsb⟩ | ⟨hh, _⟩
                · have htn : (1 : Int).toNat = 1 := rfl
                  rw [htn, HHAS.out] at hsb
                  have HR14 := Lib.hid (hsb.rb (B := w14.heap.size) hsb.lt)
                  have HB14 := Lib.hid (HB13.out.trans (hb14.mono HB13.out.size))
                  clear hsb hb0 htn hb14
                  go_wp2_with fail
                  refine (piece_head _ (pad l) n w14 HR14.out (by have := HL5.out; have := HLN.out; omega)).mono ?_
                  rintro e w15 ⟨v15, rfl, ho15, hb15⟩
                  have hpp : piece (pad l) 0 n = l := by have := piece_pad l; rw [HLN.out] at this; exact this
                  rw [hpp] at ho15
                  have HR15 := Lib.hid ho15.rbn
                  have HB15 := Lib.hid (HB14.out.trans (hb15.mono HB14.out.size))
                  have HDD15 := Lib.hid ((HDD.out.below HB15.out).more HB15.out.size)
                  obtain ⟨A15, c15, rfl, _, _, _, _⟩ := ho15.rbn.open_
                  clear ho15 hb15 hpp
                  go_wp2_with fail
                  refine (same_yes _ _ _ w15 _ HR15.out HDD15.out).mono ?_
                  rintro e w16 ⟨rfl, m16, rfl⟩
                  have hd16 := below_drewN w15 m16
                  have HB16 := Lib.hid (HB15.out.trans (hd16.mono HB15.out.size))
                  clear hd16
                  go_wp2_with fail
                  go_ret
                  exact ⟨rfl, HB16.out⟩
                · exact absurd rfl hh
              · have hf : u3.fate = 3 := by rw [HFT.out, if_pos (by omega)]
                obtain ⟨f1, f2⟩ := fates_3 DS.settle hf
                rw [f1]
                rw [f2] at hd8
                obtain ⟨u4, hu4⟩ : ∃ u4, u4 = { (DS.settle) u3.tick with off := true } := ⟨_, rfl⟩
                have hs8 : u4.steps = u2.steps + 1 := by rw [hu4, ← HST32.out]; rfl
                have ho8 : u4.off = true := by rw [hu4]
                have hl8 : u4.safe.length = 4 := by rw [hu4]; exact (settle_len u3.tick).trans HLEN3.out
                have hh8 : u4.has 1 = pad l := by rw [hu4]; exact (settle_has (s := u3.tick) (i := 1) (by have : u3.tick.safe.length = 4 := HLEN3.out; omega)).trans HHAS3.out
                have HH8 := Lib.hid hh8
                clear hh8
                rw [← hu4] at hd8
                have HD8 := Lib.hid hd8
                have HS8 := Lib.hid hs8
                have HO8 := Lib.hid ho8
                have HL8 := Lib.hid hl8
                clear hd8 hs8 hf f1 f2 hu4 hl8
                go_wp2_with fail
                refine (Read_any w8 p sb mb _ u4 HD8.out 1).mono ?_
                rintro e w9 ⟨vb, rfl, hb9, hvb⟩
                rw [off_read HO8.out] at hvb ⊢
                rcases hvb with ⟨hh, _⟩ | ⟨_, rfl⟩
                · exact absurd hh (by decide)
                have HD9 := Lib.hid (HD8.out.below hb9)
                have HM9 : Hid (Mod (Own p sb mb) wA w9) := HMA8.out.trans (Mod.of_below hb9 (fun _ => False)) (fun _ _ e => e.elim)
                clear hb9
                go_wp2_with fail
                refine (Power_any w9 p sb mb _ _ HD9.out).mono ?_
                rintro e w10 ⟨rfl, rfl⟩
                rw [ho8]
                go_wp2_with fail
                refine (Write_any w9 p sb mb _ u4 2 (.slice none 0 0) [] HD9.out (by have := HS8.out; have := HST2.out; omega) (RB.nil _ _) (.inl rfl)).mono ?_
                rintro e w10 ⟨rfl, hd10, hm10⟩
                rw [(off_write (i := 2) (l := []) HO8.out).1]
                rw [(off_write (i := 2) (l := []) HO8.out).2] at hd10
                have HD10 := Lib.hid hd10
                have HM10 := Lib.hid (HM9.out.trans' hm10)
                clear hd10 hm10
                go_wp2_with fail
                refine (Sync_any w10 p sb mb _ u4 HD10.out (by have := HS8.out; have := HST2.out; omega)).mono ?_
                rintro e w11 ⟨rfl, hd11, hm11⟩
                rw [(off_sync HO8.out).1]
                rw [(off_sync HO8.out).2] at hd11
                have HD11 := Lib.hid hd11
                have HM11 := Lib.hid (HM10.out.trans' hm11)
                clear hd11 hm11
                go_wp2_with fail
                refine (Steps_any w11 p sb mb _ _ HD11.out).mono ?_
                rintro e w12 ⟨rfl, rfl⟩
                rw [HS8.out]
                have hcast : ((u2.steps + 1 : Nat) : Int) = (u2.steps : Int) + 1 := by omega
                rw [hcast]
                clear hcast
                go_wp2_with fail
                have hba : Below w11.heap.size w11 (w11.alloc (.cells #[.int .i64 1] 3)) := (Below.refl _ _).alloc (Nat.le_refl _) _
                have HD12 := Lib.hid (HD11.out.below hba)
                have HM12 : Hid (Mod (Own p sb mb) wA _) := HM11.out.trans (Mod.of_below hba (fun _ => False)) (fun _ _ e => e.elim)
                have HZ11 : Hid (¬ sb = w11.heap.size) := by have := HD11.out.lt.2.1; intro e; omega
                clear hba
                refine (On_any _ p sb mb _ u4 _ [1] HD12.out (one_int w11 1) (by intro x hx; simp at hx; subst hx; exact ⟨by omega, by omega⟩) (.inr (fun b e h => by simp [Value.ownBlock] at e; have h : b = sb := h; have := HD11.out.lt.2.1; omega))).mono ?_
                rintro e w13 ⟨rfl, hd13, hm13⟩
                have HD13 := Lib.hid hd13
                have HM13 := Lib.hid (HM12.out.trans' hm13)
                have HB13 : Hid (Below w.heap.size w w13) := Mod.own HBA.out HM13.out HOWN.out
                clear hd13 hm13
                have hre : (u4.on [1]).readE 1 = 0 := (Kept.read (s := u4.on [1]) (i := 1) ⟨by rw [on_len, HL8.out]; omega, rfl, rfl⟩ rfl)
                have HRE := Lib.hid hre
                have hhas : (u4.on [1]).has 1 = pad l := by rw [on_one (by rw [HL8.out]; omega)]; exact HH8.out
                have HHAS := Lib.hid hhas
                clear hre hhas
                go_wp2_with fail
                refine (Read_any w13 p sb mb _ (u4.on [1]) HD13.out 1).mono ?_
                rintro e w14 ⟨vb, rfl, hb14, hvb⟩
                rw [HRE.out] at hvb ⊢
                rcases hvb with ⟨_, b14, rfl, hb0, hsb⟩ | ⟨hh, _⟩
                · have htn : (1 : Int).toNat = 1 := rfl
                  rw [htn, HHAS.out] at hsb
                  have HR14 := Lib.hid (hsb.rb (B := w14.heap.size) hsb.lt)
                  have HB14 := Lib.hid (HB13.out.trans (hb14.mono HB13.out.size))
                  clear hsb hb0 htn hb14
                  go_wp2_with fail
                  refine (piece_head _ (pad l) n w14 HR14.out (by have := HL5.out; have := HLN.out; omega)).mono ?_
                  rintro e w15 ⟨v15, rfl, ho15, hb15⟩
                  have hpp : piece (pad l) 0 n = l := by have := piece_pad l; rw [HLN.out] at this; exact this
                  rw [hpp] at ho15
                  have HR15 := Lib.hid ho15.rbn
                  have HB15 := Lib.hid (HB14.out.trans (hb15.mono HB14.out.size))
                  have HDD15 := Lib.hid ((HDD.out.below HB15.out).more HB15.out.size)
                  obtain ⟨A15, c15, rfl, _, _, _, _⟩ := ho15.rbn.open_
                  clear ho15 hb15 hpp
                  go_wp2_with fail
                  refine (same_yes _ _ _ w15 _ HR15.out HDD15.out).mono ?_
                  rintro e w16 ⟨rfl, m16, rfl⟩
                  have hd16 := below_drewN w15 m16
                  have HB16 := Lib.hid (HB15.out.trans (hd16.mono HB15.out.size))
                  clear hd16
                  go_wp2_with fail
                  go_ret
                  exact ⟨rfl, HB16.out⟩
                · exact absurd rfl hh
        | false =>
          go_wp2_with fail
          obtain ⟨u2, hu2⟩ : ∃ u2, u2 = u1 := ⟨_, rfl⟩
          rw [← hu2] at HD3 HOFF1 HPN1 HZ1 HLEN1 HST1 HSF1
          have hoff2 := HOFF1.out
          have hlen2 := HLEN1.out
          have hst2 : u2.steps ≤ 1000000000000001 := by have := HST1.out; omega
          have hsf2 := HSF1.out
          have hpn2 := HPN1.out
          have HPN2 := Lib.hid hpn2
          obtain ⟨w4, hw4⟩ : ∃ w4, w4 = w3 := ⟨_, rfl⟩
          have HD4 := HD3
          rw [← hw4] at HD4
          have HMS4 : Hid (Mod (Own p sb mb) w2 w4) := by rw [hw4]; exact HMS3.out
          rw [← hw4]
          clear hu2 hw4 hpn2
          have HOFF2 := Lib.hid hoff2
          have HLEN2 := Lib.hid hlen2
          have HST2 := Lib.hid hst2
          have HSF2 := Lib.hid hsf2
          clear hoff2 hlen2 hsf2 HOFF1 HPN1 HZ1 HLEN1 HST1 HSF1 HD3 HMS3
          refine (All_any w4 p sb mb _ u2 HD4.out).mono ?_
          rintro e wA ⟨v13, rfl, ho13, hb13⟩
          have HO13 := Lib.hid ho13
          have HRW := Lib.hid ho13.rbn
          have HDA := Lib.hid (HD4.out.below hb13)
          have HMSA : Hid (Mod (Own p sb mb) w2 wA) := HMS4.out.trans (Mod.of_below hb13 (fun _ => False)) (fun _ _ e => e.elim)
          have HBA : Hid (Below w.heap.size w wA) := Mod.own HB2.out HMSA.out HOWN.out
          have HOFW : Hid (Off (Own p sb mb) v13 u2.all) := Lib.hid (.inr (fun b e h => HD4.out.own_lt (ho13.lt b e).1 h))
          have HSAFA : Hid (RB wA wA.heap.size (.slice AS sf.length cS) sf) := HSAF2.out.mod HMSA.out HOFS.out
          obtain ⟨AW, cW, rfl, _, _, _, _⟩ := ho13.rbn.open_
          clear ho13 hb13
          go_wp2_with fail
          refine (Steps_any wA p sb mb _ u2 HDA.out).mono ?_
          rintro e w6 ⟨rfl, rfl⟩
          go_wp2_with fail
          have hba6 : Below wA.heap.size wA (wA.alloc (.cells #[.int .i64 ((u2.steps : Int) + 1), .int .i64 kind] 61)) := (Below.refl _ _).alloc (Nat.le_refl _) _
          have HDB := Lib.hid (HDA.out.below hba6)
          have HM6 : Hid (Mod (Own p sb mb) wA (wA.alloc (.cells #[.int .i64 ((u2.steps : Int) + 1), .int .i64 kind] 61))) := (Mod.refl _ _).alloc _
          clear hba6
          refine (Plan_any _ p sb mb _ u2 _ [((u2.steps : Int) + 1, kind)] HDB.out (one_fate wA _ _ _) (by intro f hf; simp at hf; subst hf; have := HST2.out; exact ⟨by dsimp only; omega, by dsimp only; omega⟩) (.inr (fun b e h => by simp [Value.ownBlock] at e; have h : b = p := h; have := HDA.out.lt.1; omega)) (by have := HST2.out; omega)).mono ?_
          rintro e w7 ⟨rfl, hd7, hm7⟩
          obtain ⟨u3, hu3⟩ : ∃ u3, u3 = u2.planned [((u2.steps : Int) + 1, kind)] := ⟨_, rfl⟩
          have hft := fate_new u2 kind
          rw [← hu3] at hft hd7
          have HFT := Lib.hid hft
          have HOFF3 : Hid (u3.off = false) := by rw [hu3]; exact HOFF2.out
          have HLEN3 : Hid (u3.safe.length = 4) := by rw [hu3]; exact HLEN2.out
          have HST32 : Hid (u3.steps = u2.steps) := by rw [hu3]; exact Lib.hid rfl
          have HALL32 : Hid (u3.all = u2.all) := by rw [hu3]; exact Lib.hid rfl
          have HSAFE3 : Hid (u3.safes = sf) := by rw [hu3]; exact HSF2.out
          have HPN3 : Hid (∀ i, u3.pend i = none) := by rw [hu3]; exact HPN2.out
          have HD7 := Lib.hid hd7
          have HMA7 : Hid (Mod (Own p sb mb) wA w7) := HM6.out.trans hm7 (fun _ _ e => .inl e)
          clear hd7 hm7 hft hu3
          have hb7 : Below w.heap.size w w7 := Mod.own HBA.out HMA7.out HOWN.out
          have hdw7 : RB w7 w7.heap.size (.slice A3 n c3) l := (HDD.out.below hb7).more hb7.size
          have HDW7 := Lib.hid hdw7
          have hof7 : Off (fun k => k = p) (.slice A3 n c3) l := HDD.out.off (fun k hk e => by have := HOWN.out; omega)
          have HOF7 := Lib.hid hof7
          clear hb7 hdw7 hof7
          obtain ⟨g1, g2⟩ := write_is (s := u3) (i := 1) (l := l) HOFF3.out (isSec_nat (i := 1) (by rw [HLEN3.out]; omega)) HL5.out
          have G1 := Lib.hid g1
          have G2 := Lib.hid g2
          clear g1 g2
          go_wp2_with fail
          refine (Write_any w7 p sb mb _ u3 1 _ l HD7.out (by have := HST2.out; have := HST32.out; omega) HDW7.out HOF7.out).mono ?_
          rintro e w8 ⟨rfl, hd8, hm8⟩
          rw [G1.out]
          rw [G2.out] at hd8
          have HMA8 := Lib.hid (HMA7.out.trans' hm8)
          have HB8 : Hid (Below w.heap.size w w8) := Mod.own HBA.out HMA8.out HOWN.out
          have HWAS8 := Lib.hid (HRW.out.mod HMA8.out HOFW.out)
          have HSAF8 := Lib.hid (HSAFA.out.mod HMA8.out HOFS.out)
          clear hm8
          by_cases hk1 : kind < 1
          · have hf : u3.fate = 0 := by rw [HFT.out, if_neg (by omega)]
            obtain ⟨f1, f2⟩ := fates_0 (DS.put 1 (pad l)) hf
            rw [f1]
            rw [f2] at hd8
            have hs8 : ((DS.put 1 (pad l)) u3.tick).steps = u2.steps + 1 := by rw [← HST32.out]; rfl
            have ho8 : ((DS.put 1 (pad l)) u3.tick).off = false := HOFF3.out
            have HD8 := Lib.hid hd8
            have HS8 := Lib.hid hs8
            clear hd8 hs8 hf f1 f2
            have hlt1 : decide (kind < 1) = true := by simpa using hk1
            go_wp2_with fail
            refine (Power_any w8 p sb mb _ _ HD8.out).mono ?_
            rintro e w9 ⟨rfl, rfl⟩
            rw [ho8]
            go_wp2_with fail
            refine (Steps_any w8 p sb mb _ _ HD8.out).mono ?_
            rintro e w9 ⟨rfl, rfl⟩
            rw [HS8.out]
            have hcast : ((u2.steps + 1 : Nat) : Int) = (u2.steps : Int) + 1 := by omega
            rw [hcast]
            clear hcast
            go_wp2_with fail
            go_ret
            exact ⟨rfl, HB8.out⟩
          · by_cases hk3 : 3 < kind
            · have hf : u3.fate = 0 := by rw [HFT.out, if_neg (by omega)]
              obtain ⟨f1, f2⟩ := fates_0 (DS.put 1 (pad l)) hf
              rw [f1]
              rw [f2] at hd8
              have hs8 : ((DS.put 1 (pad l)) u3.tick).steps = u2.steps + 1 := by rw [← HST32.out]; rfl
              have ho8 : ((DS.put 1 (pad l)) u3.tick).off = false := HOFF3.out
              have HD8 := Lib.hid hd8
              have HS8 := Lib.hid hs8
              clear hd8 hs8 hf f1 f2
              have hlt1 : decide (kind < 1) = false := by simpa using hk1
              have hgt3 : decide (3 < kind) = true := by simpa using hk3
              go_wp2_with fail
              refine (Power_any w8 p sb mb _ _ HD8.out).mono ?_
              rintro e w9 ⟨rfl, rfl⟩
              rw [ho8]
              go_wp2_with fail
              refine (Steps_any w8 p sb mb _ _ HD8.out).mono ?_
              rintro e w9 ⟨rfl, rfl⟩
              rw [HS8.out]
              have hcast : ((u2.steps + 1 : Nat) : Int) = (u2.steps : Int) + 1 := by omega
              rw [hcast]
              clear hcast
              go_wp2_with fail
              go_ret
              exact ⟨rfl, HB8.out⟩
            · have hkk : kind = 1 ∨ kind = 2 ∨ kind = 3 := by omega
              rcases hkk with rfl | rfl | rfl
              · have hf : u3.fate = 1 := by rw [HFT.out, if_pos (by omega)]
                obtain ⟨f1, f2⟩ := fates_1 (DS.put 1 (pad l)) hf
                rw [f1]
                rw [f2] at hd8
                have hs8 : u3.tick.steps = u2.steps + 1 := by rw [← HST32.out]; rfl
                have ho8 : u3.tick.off = false := HOFF3.out
                have hal8 : u3.tick.all = u2.all := HALL32.out
                have hsf8 : u3.tick.safes = sf := HSAFE3.out
                have HD8 := Lib.hid hd8
                have HS8 := Lib.hid hs8
                have HAL8 := Lib.hid hal8
                have HSF8 := Lib.hid hsf8
                clear hd8 hs8 hf f1 f2 hal8 hsf8
                go_wp2_with fail
                refine (Power_any w8 p sb mb _ _ HD8.out).mono ?_
                rintro e w9 ⟨rfl, rfl⟩
                rw [ho8]
                go_wp2_with fail
                refine (All_any w8 p sb mb _ _ HD8.out).mono ?_
                rintro e w9 ⟨v9, rfl, ho9, hb9⟩
                rw [HAL8.out] at ho9
                have HR9 := Lib.hid ho9.rbn
                obtain ⟨A9, c9, rfl, _, _, _, _⟩ := ho9.rbn.open_
                have HWA9 := Lib.hid ((HWAS8.out.below hb9).more hb9.size)
                have HD9 := Lib.hid (HD8.out.below hb9)
                have HB9 := Lib.hid (HB8.out.trans (hb9.mono HB8.out.size))
                have HSA9 := Lib.hid ((HSAF8.out.below hb9).more hb9.size)
                clear ho9 hb9
                go_wp2_with fail
                refine (same_yes _ _ _ w9 _ HR9.out HWA9.out).mono ?_
                rintro e w10 ⟨rfl, m10, rfl⟩
                have hd10 := below_drewN w9 m10
                have HD10 := Lib.hid (HD9.out.below hd10)
                have HSA10 := Lib.hid ((HSA9.out.below hd10).more hd10.size)
                have HB10 := Lib.hid (HB9.out.trans (hd10.mono HB9.out.size))
                clear hd10
                go_wp2_with fail
                refine (Safe_any _ p sb mb _ _ HD10.out).mono ?_
                rintro e w11 ⟨v11, rfl, ho11, hb11⟩
                rw [HSF8.out] at ho11
                have HR11 := Lib.hid ho11.rbn
                obtain ⟨A11, c11, rfl, _, _, _, _⟩ := ho11.rbn.open_
                have HSA11 := Lib.hid ((HSA10.out.below hb11).more hb11.size)
                have HD11 := Lib.hid (HD10.out.below hb11)
                have HB11 := Lib.hid (HB10.out.trans (hb11.mono HB10.out.size))
                clear ho11 hb11
                go_wp2_with fail
                refine (same_yes _ _ _ w11 _ HR11.out HSA11.out).mono ?_
                rintro e w12 ⟨rfl, m12, rfl⟩
                have hd12 := below_drewN w11 m12
                have HD12 := Lib.hid (HD11.out.below hd12)
                have HB12 := Lib.hid (HB11.out.trans (hd12.mono HB11.out.size))
                clear hd12
                go_wp2_with fail
                refine (Steps_any _ p sb mb _ _ HD12.out).mono ?_
                rintro e w13 ⟨rfl, rfl⟩
                rw [HS8.out]
                have hcast : ((u2.steps + 1 : Nat) : Int) = (u2.steps : Int) + 1 := by omega
                rw [hcast]
                clear hcast
                go_wp2_with fail
                go_ret
                exact ⟨rfl, HB12.out⟩
              · have hf : u3.fate = 2 := by rw [HFT.out, if_pos (by omega)]
                obtain ⟨f1, f2⟩ := fates_2 (DS.put 1 (pad l)) hf
                rw [f1]
                rw [f2] at hd8
                obtain ⟨u4, hu4⟩ : ∃ u4, u4 = { u3.tick with off := true } := ⟨_, rfl⟩
                have hs8 : u4.steps = u2.steps + 1 := by rw [hu4, ← HST32.out]; rfl
                have ho8 : u4.off = true := by rw [hu4]
                have hl8 : u4.safe.length = 4 := by rw [hu4]; exact HLEN3.out
                have hp8 : (u4.on [1]).all = sf := by rw [hu4, ← HSAFE3.out]; exact on_none_all HPN3.out [1]
                have HP8 := Lib.hid hp8
                clear hp8
                rw [← hu4] at hd8
                have HD8 := Lib.hid hd8
                have HS8 := Lib.hid hs8
                have HO8 := Lib.hid ho8
                have HL8 := Lib.hid hl8
                clear hd8 hs8 hf f1 f2 hu4 hl8
                go_wp2_with fail
                refine (Read_any w8 p sb mb _ u4 HD8.out 1).mono ?_
                rintro e w9 ⟨vb, rfl, hb9, hvb⟩
                rw [off_read HO8.out] at hvb ⊢
                rcases hvb with ⟨hh, _⟩ | ⟨_, rfl⟩
                · exact absurd hh (by decide)
                have HD9 := Lib.hid (HD8.out.below hb9)
                have HM9 : Hid (Mod (Own p sb mb) wA w9) := HMA8.out.trans (Mod.of_below hb9 (fun _ => False)) (fun _ _ e => e.elim)
                clear hb9
                go_wp2_with fail
                refine (Power_any w9 p sb mb _ _ HD9.out).mono ?_
                rintro e w10 ⟨rfl, rfl⟩
                rw [ho8]
                go_wp2_with fail
                refine (Write_any w9 p sb mb _ u4 2 (.slice none 0 0) [] HD9.out (by have := HS8.out; have := HST2.out; omega) (RB.nil _ _) (.inl rfl)).mono ?_
                rintro e w10 ⟨rfl, hd10, hm10⟩
                rw [(off_write (i := 2) (l := []) HO8.out).1]
                rw [(off_write (i := 2) (l := []) HO8.out).2] at hd10
                have HD10 := Lib.hid hd10
                have HM10 := Lib.hid (HM9.out.trans' hm10)
                clear hd10 hm10
                go_wp2_with fail
                refine (Sync_any w10 p sb mb _ u4 HD10.out (by have := HS8.out; have := HST2.out; omega)).mono ?_
                rintro e w11 ⟨rfl, hd11, hm11⟩
                rw [(off_sync HO8.out).1]
                rw [(off_sync HO8.out).2] at hd11
                have HD11 := Lib.hid hd11
                have HM11 := Lib.hid (HM10.out.trans' hm11)
                clear hd11 hm11
                go_wp2_with fail
                refine (Steps_any w11 p sb mb _ _ HD11.out).mono ?_
                rintro e w12 ⟨rfl, rfl⟩
                rw [HS8.out]
                have hcast : ((u2.steps + 1 : Nat) : Int) = (u2.steps : Int) + 1 := by omega
                rw [hcast]
                clear hcast
                go_wp2_with fail
                have hba : Below w11.heap.size w11 (w11.alloc (.cells #[.int .i64 1] 3)) := (Below.refl _ _).alloc (Nat.le_refl _) _
                have HD12 := Lib.hid (HD11.out.below hba)
                have HM12 : Hid (Mod (Own p sb mb) wA _) := HM11.out.trans (Mod.of_below hba (fun _ => False)) (fun _ _ e => e.elim)
                have HZ11 : Hid (¬ sb = w11.heap.size) := by have := HD11.out.lt.2.1; intro e; omega
                clear hba
                refine (On_any _ p sb mb _ u4 _ [1] HD12.out (one_int w11 1) (by intro x hx; simp at hx; subst hx; exact ⟨by omega, by omega⟩) (.inr (fun b e h => by simp [Value.ownBlock] at e; have h : b = sb := h; have := HD11.out.lt.2.1; omega))).mono ?_
                rintro e w13 ⟨rfl, hd13, hm13⟩
                have HD13 := Lib.hid hd13
                have HM13 := Lib.hid (HM12.out.trans' hm13)
                have HB13 : Hid (Below w.heap.size w w13) := Mod.own HBA.out HM13.out HOWN.out
                clear hd13 hm13
                have HSA13 : Hid (RB w13 w13.heap.size (.slice AS sf.length cS) sf) := Lib.hid (HSAFA.out.mod HM13.out HOFS.out)
                go_wp2_with fail
                refine (All_any w13 p sb mb _ _ HD13.out).mono ?_
                rintro e w14 ⟨v14, rfl, ho14, hb14⟩
                rw [HP8.out] at ho14
                have HR14 := Lib.hid ho14.rbn
                obtain ⟨A14, c14, rfl, _, _, _, _⟩ := ho14.rbn.open_
                have HSA14 := Lib.hid ((HSA13.out.below hb14).more hb14.size)
                have HB14 := Lib.hid (HB13.out.trans (hb14.mono HB13.out.size))
                clear ho14 hb14
                go_wp2_with fail
                refine (same_yes _ _ _ w14 _ HR14.out HSA14.out).mono ?_
                rintro e w15 ⟨rfl, m15, rfl⟩
                have hd15 := below_drewN w14 m15
                have HB15 := Lib.hid (HB14.out.trans (hd15.mono HB14.out.size))
                clear hd15
                go_wp2_with fail
                go_ret
                exact ⟨rfl, HB15.out⟩
              · have hf : u3.fate = 3 := by rw [HFT.out, if_pos (by omega)]
                obtain ⟨f1, f2⟩ := fates_3 (DS.put 1 (pad l)) hf
                rw [f1]
                rw [f2] at hd8
                obtain ⟨u4, hu4⟩ : ∃ u4, u4 = { ((DS.put 1 (pad l))) u3.tick with off := true } := ⟨_, rfl⟩
                have hs8 : u4.steps = u2.steps + 1 := by rw [hu4, ← HST32.out]; rfl
                have ho8 : u4.off = true := by rw [hu4]
                have hl8 : u4.safe.length = 4 := by rw [hu4]; exact HLEN3.out
                have hh8 : u4.has 1 = pad l := by rw [hu4]; exact put_has (s := u3.tick) (i := 1)
                have HH8 := Lib.hid hh8
                clear hh8
                rw [← hu4] at hd8
                have HD8 := Lib.hid hd8
                have HS8 := Lib.hid hs8
                have HO8 := Lib.hid ho8
                have HL8 := Lib.hid hl8
                clear hd8 hs8 hf f1 f2 hu4 hl8
                go_wp2_with fail
                refine (Read_any w8 p sb mb _ u4 HD8.out 1).mono ?_
                rintro e w9 ⟨vb, rfl, hb9, hvb⟩
                rw [off_read HO8.out] at hvb ⊢
                rcases hvb with ⟨hh, _⟩ | ⟨_, rfl⟩
                · exact absurd hh (by decide)
                have HD9 := Lib.hid (HD8.out.below hb9)
                have HM9 : Hid (Mod (Own p sb mb) wA w9) := HMA8.out.trans (Mod.of_below hb9 (fun _ => False)) (fun _ _ e => e.elim)
                clear hb9
                go_wp2_with fail
                refine (Power_any w9 p sb mb _ _ HD9.out).mono ?_
                rintro e w10 ⟨rfl, rfl⟩
                rw [ho8]
                go_wp2_with fail
                refine (Write_any w9 p sb mb _ u4 2 (.slice none 0 0) [] HD9.out (by have := HS8.out; have := HST2.out; omega) (RB.nil _ _) (.inl rfl)).mono ?_
                rintro e w10 ⟨rfl, hd10, hm10⟩
                rw [(off_write (i := 2) (l := []) HO8.out).1]
                rw [(off_write (i := 2) (l := []) HO8.out).2] at hd10
                have HD10 := Lib.hid hd10
                have HM10 := Lib.hid (HM9.out.trans' hm10)
                clear hd10 hm10
                go_wp2_with fail
                refine (Sync_any w10 p sb mb _ u4 HD10.out (by have := HS8.out; have := HST2.out; omega)).mono ?_
                rintro e w11 ⟨rfl, hd11, hm11⟩
                rw [(off_sync HO8.out).1]
                rw [(off_sync HO8.out).2] at hd11
                have HD11 := Lib.hid hd11
                have HM11 := Lib.hid (HM10.out.trans' hm11)
                clear hd11 hm11
                go_wp2_with fail
                refine (Steps_any w11 p sb mb _ _ HD11.out).mono ?_
                rintro e w12 ⟨rfl, rfl⟩
                rw [HS8.out]
                have hcast : ((u2.steps + 1 : Nat) : Int) = (u2.steps : Int) + 1 := by omega
                rw [hcast]
                clear hcast
                go_wp2_with fail
                have hba : Below w11.heap.size w11 (w11.alloc (.cells #[.int .i64 1] 3)) := (Below.refl _ _).alloc (Nat.le_refl _) _
                have HD12 := Lib.hid (HD11.out.below hba)
                have HM12 : Hid (Mod (Own p sb mb) wA _) := HM11.out.trans (Mod.of_below hba (fun _ => False)) (fun _ _ e => e.elim)
                have HZ11 : Hid (¬ sb = w11.heap.size) := by have := HD11.out.lt.2.1; intro e; omega
                clear hba
                refine (On_any _ p sb mb _ u4 _ [1] HD12.out (one_int w11 1) (by intro x hx; simp at hx; subst hx; exact ⟨by omega, by omega⟩) (.inr (fun b e h => by simp [Value.ownBlock] at e; have h : b = sb := h; have := HD11.out.lt.2.1; omega))).mono ?_
                rintro e w13 ⟨rfl, hd13, hm13⟩
                have HD13 := Lib.hid hd13
                have HM13 := Lib.hid (HM12.out.trans' hm13)
                have HB13 : Hid (Below w.heap.size w w13) := Mod.own HBA.out HM13.out HOWN.out
                clear hd13 hm13
                have hre : (u4.on [1]).readE 1 = 0 := (Kept.read (s := u4.on [1]) (i := 1) ⟨by rw [on_len, HL8.out]; omega, rfl, rfl⟩ rfl)
                have HRE := Lib.hid hre
                have hhas : (u4.on [1]).has 1 = pad l := by rw [on_one (by rw [HL8.out]; omega)]; exact HH8.out
                have HHAS := Lib.hid hhas
                clear hre hhas
                go_wp2_with fail
                refine (Read_any w13 p sb mb _ (u4.on [1]) HD13.out 1).mono ?_
                rintro e w14 ⟨vb, rfl, hb14, hvb⟩
                rw [HRE.out] at hvb ⊢
                rcases hvb with ⟨_, b14, rfl, hb0, hsb⟩ | ⟨hh, _⟩
                · have htn : (1 : Int).toNat = 1 := rfl
                  rw [htn, HHAS.out] at hsb
                  have HR14 := Lib.hid (hsb.rb (B := w14.heap.size) hsb.lt)
                  have HB14 := Lib.hid (HB13.out.trans (hb14.mono HB13.out.size))
                  clear hsb hb0 htn hb14
                  go_wp2_with fail
                  refine (piece_head _ (pad l) n w14 HR14.out (by have := HL5.out; have := HLN.out; omega)).mono ?_
                  rintro e w15 ⟨v15, rfl, ho15, hb15⟩
                  have hpp : piece (pad l) 0 n = l := by have := piece_pad l; rw [HLN.out] at this; exact this
                  rw [hpp] at ho15
                  have HR15 := Lib.hid ho15.rbn
                  have HB15 := Lib.hid (HB14.out.trans (hb15.mono HB14.out.size))
                  have HDD15 := Lib.hid ((HDD.out.below HB15.out).more HB15.out.size)
                  obtain ⟨A15, c15, rfl, _, _, _, _⟩ := ho15.rbn.open_
                  clear ho15 hb15 hpp
                  go_wp2_with fail
                  refine (same_yes _ _ _ w15 _ HR15.out HDD15.out).mono ?_
                  rintro e w16 ⟨rfl, m16, rfl⟩
                  have hd16 := below_drewN w15 m16
                  have HB16 := Lib.hid (HB15.out.trans (hd16.mono HB15.out.size))
                  clear hd16
                  go_wp2_with fail
                  go_ret
                  exact ⟨rfl, HB16.out⟩
                · exact absurd rfl hh
end Go.Proofs.Ytjjjikiopbmogaa
