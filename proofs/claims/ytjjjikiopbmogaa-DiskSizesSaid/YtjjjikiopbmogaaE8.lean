/-
  Two disks alike; the walk of DiskLoad.
-/
import Derived.Test.YtjjjikiopbmogaaE7
namespace Go.Proofs.Ytjjjikiopbmogaa
open Go.RowKit Go.Maps
set_option linter.unusedVariables false

set_option maxRecDepth 100000 in
set_option maxHeartbeats 2000000 in
theorem SameInts_yes (v v2 : Value) (V : List Int) (w : World) (B B2 : Nat) (hv : RI w B v V) (hv2 : RI w B2 v2 V) :
    Calls Try.prog 39 #[v, v2] w fun e w' => e = .returned (.bool true) ∧ ∃ q, w' = w.drewN q := by
  obtain ⟨A, c, rfl, hc1, hc2, hc3, HC⟩ := hv.open_
  obtain ⟨A2, c2, rfl, hd1, hd2, hd3, HD⟩ := hv2.open_
  clear hv hv2
  obtain ⟨n, hn⟩ : ∃ n, n = V.length := ⟨_, rfl⟩
  rw [← hn] at hc1 hc3 hd1 hd3 ⊢
  have HN := Lib.hid hn
  clear hn
  go_enter Try.func39, Try.ntmps39
  go_wp2
  go_loopw [5] (fun i wr => ∃ (k q : Nat), k ≤ n ∧ i = .int .i64 k ∧ wr = w.drewN q) (fun i wr => n - (intOf i).toNat)
  case atStart => exact ⟨0, 0, Nat.zero_le _, rfl, rfl⟩
  case round =>
    obtain ⟨k, q, hk, rfl, rfl⟩ := hrel
    by_cases hlt : k < n
    · obtain ⟨b, o, rfl, hb, hx⟩ := HC.out k (by have := HN.out; omega)
      obtain ⟨b2, o2, rfl, hb2, hx2⟩ := HD.out k (by have := HN.out; omega)
      obtain ⟨y, hy⟩ : ∃ y, y = V[k]'(by have := HN.out; omega) := ⟨_, rfl⟩
      rw [← hy] at hx hx2
      have hx := cellI hx
      have hx2 := cellI hx2
      have hx : (w.drewN q).cell? ⟨b, o + k, none⟩ = some (.int .i64 y) := hx
      have hx2 : (w.drewN q).cell? ⟨b2, o2 + k, none⟩ = some (.int .i64 y) := hx2
      clear hy
      obtain ⟨wr, hwr⟩ : ∃ wr, wr = w.drewN q := ⟨_, rfl⟩
      rw [← hwr] at hx hx2 ⊢
      have HWr := Lib.hid hwr
      clear hwr
      go_wp2_with fail
      go_quiet (fail)
      go_wp2_with fail
      go_roundw
      case rel => exact ⟨k + 1, _, by omega, by go_num, by rw [HWr.out, World.drewN_drewN]⟩
      case measure => simp [intOf]; omega
    · obtain rfl : k = n := by omega
      go_wp2
      go_ret
      exact ⟨rfl, q, rfl⟩

/-- Two disks of the same sectors, none with a plan. -/
structure Alike (s t : DS) : Prop where
  safe : s.safe = t.safe
  pend : s.pend = t.pend
  off : s.off = t.off
  p1 : ∀ k, s.plan k = 0
  p2 : ∀ k, t.plan k = 0
theorem step_zero {s : DS} (hp : ∀ k, s.plan k = 0) (f : DS → DS) : s.step f = f s.tick := step_ok (by unfold DS.code DS.fate; rw [hp]; rfl) f
theorem Alike.run {s t : DS} (h : Alike s t) (o : OpD) (hk : o.kind ≠ 5) : Alike (s.run o) (t.run o) := by
  obtain ⟨h1, h2, h3, h4, h5⟩ := h
  obtain ⟨a, b, c, d, e⟩ := s
  obtain ⟨a', b', c', d', e'⟩ := t
  dsimp only at h1 h2 h3 h4 h5
  subst h1 h2 h3
  unfold DS.run
  split
  · unfold DS.write
    split
    · exact ⟨rfl, rfl, rfl, h4, h5⟩
    · have e1 : DS.isSec ⟨a, b, c, d, e⟩ o.i = DS.isSec ⟨a, b, c', d', e⟩ o.i := rfl
      rw [e1]
      split
      · exact ⟨rfl, rfl, rfl, h4, h5⟩
      · split
        · exact ⟨rfl, rfl, rfl, h4, h5⟩
        · rw [step_zero h4, step_zero h5]
          exact ⟨rfl, rfl, rfl, h4, h5⟩
  · split
    · unfold DS.sync
      split
      · exact ⟨rfl, rfl, rfl, h4, h5⟩
      · rw [step_zero h4, step_zero h5]
        exact ⟨rfl, rfl, rfl, h4, h5⟩
    · split
      · exact ⟨rfl, rfl, rfl, h4, h5⟩
      · first | (rw [if_neg hk, if_neg hk]; exact ⟨rfl, rfl, rfl, h4, h5⟩) | (exact ⟨rfl, rfl, rfl, h4, h5⟩)
theorem Alike.all {s t : DS} (h : Alike s t) : s.all = t.all := by unfold DS.all DS.has; rw [h.safe, h.pend]
theorem Alike.safes {s t : DS} (h : Alike s t) : s.safes = t.safes := by unfold DS.safes; rw [h.safe]
theorem Alike.loose {s t : DS} (h : Alike s t) : s.loose = t.loose := by unfold DS.loose; rw [h.safe, h.pend]
theorem planned_nil (s : DS) (k : Int) : (s.planned []).plan k = 0 := by
  unfold DS.planned
  dsimp only
  split
  · rfl
  · rfl
theorem pad_full {l : List Nat} (h : l.length = 512) : pad l = l := by unfold pad; rw [h]; simp
theorem load_safe {s : DS} (h : s.Ok) (hp : ∀ i, s.pend i = none) : (DS.load s.all).safe = s.safe := by
  have hl : s.all.length = s.safe.length * 512 := by unfold DS.all; exact flatMap_len _ fun j hj => (h.has hj).1
  have hn := h.num
  have hs : secsOf s.all = s.safe.length := by unfold secsOf; rw [hl]; omega
  unfold DS.load
  dsimp only
  rw [hs]
  apply List.ext_getElem?
  intro i
  by_cases hi : i < s.safe.length
  · have h1 := piece_all h hi
    have h2 : (s.all.drop (i * 512)).take 512 = piece s.all (512 * i) (512 * i + 512) := by
      unfold piece
      rw [List.drop_take, Nat.mul_comm]
      congr 1
      omega
    have h3 : s.has i = s.safe.getD i [] := by unfold DS.has; rw [hp]; rfl
    rw [List.getElem?_map, List.getElem?_range hi, Option.map_some, h2, h1, h3, pad_full (h.at_ hi).1]
    simp [List.getD, hi]
  · rw [List.getElem?_eq_none (by simp; omega), List.getElem?_eq_none (by omega)]
theorem alike_load {s : DS} (h : s.Ok) (hp : ∀ i, s.pend i = none) (ho : s.off = false) (hz : ∀ k, s.plan k = 0) : Alike s (DS.load s.all) :=
  ⟨(load_safe h hp).symm, funext hp, ho, hz, fun _ => rfl⟩

/-- Two disks side by side. -/
structure Two (B : World) (p sb mb p' sb' mb' : Nat) (wr : World) (s t : DS) : Prop where
  d : ∃ pl, DiskAt wr p sb mb pl s ∧ ∀ b, pl = some b → ¬ Own p' sb' mb' b
  x : ∃ pl, DiskAt wr p' sb' mb' pl t ∧ ∀ b, pl = some b → ¬ Own p sb mb b
  mod : Mod (fun k => Own p sb mb k ∨ Own p' sb' mb' k) B wr
theorem DiskAt.own_lt {w : World} {p sb mb : Nat} {pl : Option Nat} {s : DS} (h : DiskAt w p sb mb pl s) {b : Nat} (hb : w.heap.size ≤ b) : ¬ Own p sb mb b := by
  obtain ⟨h1, h2, h3, _⟩ := h.lt
  rintro (e | e | e) <;> omega
theorem Two.below {B : World} {p sb mb p' sb' mb' : Nat} {wr wr' : World} {s t : DS} (h : Two B p sb mb p' sb' mb' wr s t) (hb : Below wr.heap.size wr wr') : Two B p sb mb p' sb' mb' wr' s t := by
  obtain ⟨⟨pl, h1, h2⟩, ⟨pl', h3, h4⟩, h5⟩ := h
  exact ⟨⟨pl, h1.below hb, h2⟩, ⟨pl', h3.below hb, h4⟩, h5.trans (Mod.of_below hb (fun _ => False)) (fun _ _ e => e.elim)⟩
theorem Two.left {B : World} {p sb mb p' sb' mb' : Nat} {wr w' : World} {s s' t : DS} {pl pl' : Option Nat} (h : Two B p sb mb p' sb' mb' wr s t) (ha : ∀ k, Own p sb mb k → ¬ Own p' sb' mb' k)
    (hp : ∀ b, pl = some b → ¬ Own p' sb' mb' b) (h1 : DiskAt w' p sb mb pl' s') (h2 : Mod (Own p sb mb) wr w') (h3 : ∀ b, pl' = some b → pl = some b ∨ wr.heap.size ≤ b) : Two B p sb mb p' sb' mb' w' s' t := by
  obtain ⟨hd, ⟨plx, hx, hx2⟩, hm⟩ := h
  refine ⟨⟨pl', h1, fun b hb => ?_⟩, ⟨plx, hx.mod h2 (fun e => ha _ e (.inl rfl)) (fun e => ha _ e (.inr (.inl rfl))) (fun e => ha _ e (.inr (.inr rfl))) hx2, hx2⟩, hm.trans h2 (fun _ _ e => .inl e)⟩
  rcases h3 b hb with h | h
  · exact hp b h
  · exact hx.own_lt h
theorem Two.right {B : World} {p sb mb p' sb' mb' : Nat} {wr w' : World} {s t t' : DS} {pl pl' : Option Nat} (h : Two B p sb mb p' sb' mb' wr s t) (ha : ∀ k, Own p sb mb k → ¬ Own p' sb' mb' k)
    (hp : ∀ b, pl = some b → ¬ Own p sb mb b) (h1 : DiskAt w' p' sb' mb' pl' t') (h2 : Mod (Own p' sb' mb') wr w') (h3 : ∀ b, pl' = some b → pl = some b ∨ wr.heap.size ≤ b) : Two B p sb mb p' sb' mb' w' s t' := by
  obtain ⟨⟨pld, hd, hd2⟩, hx, hm⟩ := h
  refine ⟨⟨pld, hd.mod h2 (fun e => ha _ (.inl rfl) e) (fun e => ha _ (.inr (.inl rfl)) e) (fun e => ha _ (.inr (.inr rfl)) e) hd2, hd2⟩, ⟨pl', h1, fun b hb => ?_⟩, hm.trans h2 (fun _ _ e => .inr e)⟩
  rcases h3 b hb with h | h
  · exact hp b h
  · exact hd.own_lt h
theorem Mod.own2 {w W W' : World} {p sb mb p' sb' mb' : Nat} (hb : Below w.heap.size w W) (hm : Mod (fun k => Own p sb mb k ∨ Own p' sb' mb' k) W W') (h : w.heap.size ≤ p ∧ w.heap.size ≤ sb ∧ w.heap.size ≤ mb) (h' : w.heap.size ≤ p' ∧ w.heap.size ≤ sb' ∧ w.heap.size ≤ mb') : Below w.heap.size w W' :=
  ((Mod.of_below hb (fun k => w.heap.size ≤ k)).trans hm (fun k hk e => by rcases e with (e | e | e) | (e | e | e) <;> omega)).below (Nat.le_refl _) (fun _ h => h)

set_option maxRecDepth 100000 in
set_option maxHeartbeats 8000000 in
theorem diskLoad_any (w : World) (bv : Value) (os : List OpV) (av : Value) (os2 : List OpV) (hs : Script w bv os) (hs2 : Script w av os2) :
    Calls Try.prog 8 #[bv, av] w fun e w' => e = .returned (.bool true) ∧ Below w.heap.size w w' := by
  have hcv := run_const
  obtain ⟨A, c, rfl, ha1, ha2, ha3, HA⟩ := hs.rk.open_
  obtain ⟨A2, c2, rfl, hb1, hb2, hb3, HA2⟩ := hs2.rk.open_
  have HSC := Lib.hid hs
  have HSC2 := Lib.hid hs2
  have hol := hs.len
  have hol2 := hs2.len
  clear hs hs2
  go_enter Try.func8, Try.ntmps8
  go_wp2_with fail
  refine (alive_any w).mono ?_
  rintro e wa ⟨rfl, hba⟩
  have HBA := Lib.hid hba
  clear hba
  go_wp2_with fail
  refine (New_any 5 wa).mono ?_
  rintro e w0 ⟨rfl, hd0, hz0, hb0⟩
  obtain ⟨p, hp⟩ : ∃ p, p = wa.heap.size + 2 := ⟨_, rfl⟩
  obtain ⟨sb, hsb⟩ : ∃ sb, sb = wa.heap.size := ⟨_, rfl⟩
  obtain ⟨mb, hmb⟩ : ∃ mb, mb = wa.heap.size + 1 := ⟨_, rfl⟩
  rw [← hp, ← hmb] at hd0
  rw [← hsb] at hd0
  rw [← hp]
  have hwa := HBA.out.size
  have hown : w.heap.size ≤ p ∧ w.heap.size ≤ sb ∧ w.heap.size ≤ mb := by omega
  have HOWN := Lib.hid hown
  have HB0 : Hid (Below w.heap.size w w0) := HBA.out.trans (hb0.mono hwa)
  have HL0 : Hid (Live w0 p sb mb w0 (DS.new 5)) := ⟨⟨none, hd0⟩, Mod.refl _ _⟩
  clear hp hsb hmb hd0 hz0 hb0 hown hwa
  go_wp2_with fail
  go_loopw [19] (fun i wr => ∃ k : Nat, k ≤ os.length ∧ i = .int .i64 k ∧ Hid (Live w0 p sb mb wr ((DS.new 5).runs (os.take k)))) (fun i wr => os.length - (intOf i).toNat)
  case atStart => exact ⟨0, Nat.zero_le _, rfl, HL0.out⟩
  case round =>
    obtain ⟨k, hkk, rfl, HL⟩ := hrel
    by_cases hkl : k < os.length
    · have hst := runs_steps0 (n := 5) HSC.out.len k
      have HST := Lib.hid hst
      clear hst
      obtain ⟨b1, o1, rfl, hb, hx⟩ := HA.out k hkl
      have hbw : Below w.heap.size w wr := Mod.own HB0.out HL.out.mod HOWN.out
      have hat := HSC.out.at_ os[k] (List.getElem_mem hkl)
      have hoff := HSC.out.offB HOWN.out (List.getElem_mem hkl)
      obtain ⟨x, hxx⟩ : ∃ x, x = os[k] := ⟨_, rfl⟩
      rw [← hxx] at hx hat hoff
      obtain ⟨y0, y1, y2, y3, y4⟩ := cellOp hx
      have z0 : wr.cell? ⟨b1, o1 + k * 5, none⟩ = _ := (hbw.cell (p := ⟨b1, o1 + k * 5, none⟩) hb).trans y0
      have z1 : wr.cell? ⟨b1, o1 + k * 5 + 1, none⟩ = _ := (hbw.cell (p := ⟨b1, o1 + k * 5 + 1, none⟩) hb).trans y1
      have z2 : wr.cell? ⟨b1, o1 + k * 5 + 2, none⟩ = _ := (hbw.cell (p := ⟨b1, o1 + k * 5 + 2, none⟩) hb).trans y2
      have z3 : wr.cell? ⟨b1, o1 + k * 5 + 3, none⟩ = _ := (hbw.cell (p := ⟨b1, o1 + k * 5 + 3, none⟩) hb).trans y3
      have z4 : wr.cell? ⟨b1, o1 + k * 5 + 4, none⟩ = _ := (hbw.cell (p := ⟨b1, o1 + k * 5 + 4, none⟩) hb).trans y4
      have HAT := Lib.hid (hat.1.below hbw)
      have hi64 := hat.2.2.1
      have hk64' := hat.2.1
      obtain ⟨D1, d1, e1, _, _, _, _⟩ := hat.1.data.open_
      obtain ⟨D2, d2, e2, _, _, _, _⟩ := hat.1.keeps.open_
      obtain ⟨D3, d3, e3, _, _, _, _⟩ := hat.1.fates.open_
      have HOFF := Lib.hid hoff
      have HXX := Lib.hid hxx
      clear y0 y1 y2 y3 y4 hx hat hoff hxx hbw
      obtain ⟨o, dv, kv, fv⟩ := x
      dsimp only at z0 z1 z2 z3 z4 e1 e2 e3 hi64 hk64'
      subst e1 e2 e3

      have hO : OpAt (wr.alloc (.cells (opC o (.slice D1 o.data.length d1) (.slice D2 o.keeps.length d2) (.slice D3 o.fates.length d3)) 37)) o (.slice D1 o.data.length d1) (.slice D2 o.keeps.length d2) (.slice D3 o.fates.length d3) := HAT.out.below ((Below.refl _ _).alloc (Nat.le_refl _) _)
      have HO := Lib.hid hO
      obtain ⟨pl, hpl⟩ := HL.out.disk
      have HPL := Lib.hid hpl
      clear hO hpl
      go_wp2_with fail
      refine (do_any _ p sb mb pl _ o _ _ _ (HPL.out.alloc _) HO.out HOFF.out (by have := HST.out; omega)).mono ?_
      intro e w1 hdo1
      have hop : os[k].op = o := by rw [← HXX.out]
      rw [← hop] at hdo1
      obtain ⟨rfl, hl1⟩ := Live.step HL.out.mod hdo1
      rw [← runs_snoc, ← List.take_succ_eq_append_getElem hkl] at hl1
      have HL1 := Lib.hid hl1
      clear hdo1 hl1 hop
      go_wp2_with fail
      go_roundw
      case rel => exact ⟨k + 1, by omega, by go_num, HL1⟩
      case measure => simp [intOf]; omega
    · obtain rfl : k = os.length := by omega
      obtain ⟨s, hs⟩ : ∃ s, s = (DS.new 5).runs (os.take os.length) := ⟨_, rfl⟩
      have hsl : s.safe.length = 5 := by rw [hs, runs_len]; rfl
      have hst : s.steps ≤ 1000000000000000 := by rw [hs]; exact runs_steps0 HSC.out.len _
      have hlive : Live w0 p sb mb wr s := by rw [hs]; exact HL.out
      have HSL := Lib.hid hsl
      have HST := Lib.hid hst
      have HV := Lib.hid hlive
      clear hs hsl hst hlive HL
      obtain ⟨pl, hpl⟩ := HV.out.disk
      have HPL := Lib.hid hpl
      clear hpl HA HSC
      go_wp2_with fail
      refine (Plan_any wr p sb mb pl s (.slice none 0 0) [] HPL.out (RK.nil _ _) (by simp) (.inl rfl) (by have := HST.out; omega)).mono ?_
      rintro e w1 ⟨rfl, hd1, hm1⟩
      have HD1 := Lib.hid hd1
      have HM1 : Hid (Mod (Own p sb mb) w0 w1) := HV.out.mod.trans hm1 (fun _ _ e => .inl e)
      clear hd1 hm1
      go_wp2_with fail
      refine (Loose_any w1 p sb mb _ (s.planned []) HD1.out).mono ?_
      rintro e w2 ⟨v2, rfl, ho2, hb2⟩
      have HO2 := Lib.hid ho2
      have HD2 := Lib.hid (HD1.out.below hb2)
      have HM2 : Hid (Mod (Own p sb mb) w0 w2) := HM1.out.trans (Mod.of_below hb2 (fun _ => False)) (fun _ _ e => e.elim)
      obtain ⟨AL, cL, rfl, _, _, _, _⟩ := (ho2.rk encI_len (Nat.le_refl _)).open_
      have HRL : Hid (RI w2 w2.heap.size _ (s.planned []).loose) := ho2.rk encI_len (Nat.le_refl _)
      clear ho2 hb2
      have hoffL : Off (fun k => k = sb) (.slice AL (s.planned []).loose.length cL) (s.planned []).loose := .inr (fun b e h => by have := HO2.out.lt b e; have := HD1.out.lt; omega)
      have HOFL := Lib.hid hoffL
      have h64 : ∀ x ∈ (s.planned []).loose, I64 x := by
        intro x hx
        have h1 := (loose_mem _ _).1 hx
        have h2 := HD2.out.ok.num
        constructor <;> omega
      have H64 := Lib.hid h64
      clear hoffL h64
      go_wp2_with fail
      refine (On_any w2 p sb mb _ (s.planned []) _ (s.planned []).loose HD2.out HRL.out H64.out HOFL.out).mono ?_
      rintro e w3 ⟨rfl, hd3, hm3⟩
      have hpn : ∀ i, ((s.planned []).on (s.planned []).loose).pend i = none := fun _ => rfl
      have hof : ((s.planned []).on (s.planned []).loose).off = false := rfl
      have hpz : ∀ k, ((s.planned []).on (s.planned []).loose).plan k = 0 := planned_nil s
      have hst3 : ((s.planned []).on (s.planned []).loose).steps ≤ 1000000000000000 := HST.out
      have hln3 : ((s.planned []).on (s.planned []).loose).safe.length = 5 := by rw [on_len]; exact HSL.out
      obtain ⟨u, hu⟩ : ∃ u, u = (s.planned []).on (s.planned []).loose := ⟨_, rfl⟩
      rw [← hu] at hd3 hpn hof hpz hst3 hln3
      have HD3 := Lib.hid hd3
      have HM3 : Hid (Mod (Own p sb mb) w0 w3) := HM2.out.trans' hm3
      have hal := alike_load hd3.ok hpn hof hpz
      have HAL := Lib.hid hal
      have HS3 := Lib.hid hst3
      have HL3 := Lib.hid hln3
      clear hu hd3 hm3 hal hpn hof hpz hst3 hln3 HOFL H64 HRL HD2 HD1 HM2 HM1 HO2 HPL HV HST HSL
      go_wp2_with fail
      refine (All_any w3 p sb mb _ u HD3.out).mono ?_
      rintro e w4 ⟨v4, rfl, ho4, hb4⟩
      have HR4 := Lib.hid ho4.rbn
      have HD4 := Lib.hid (HD3.out.below hb4)
      have HM4 : Hid (Mod (Own p sb mb) w0 w4) := HM3.out.trans (Mod.of_below hb4 (fun _ => False)) (fun _ _ e => e.elim)
      obtain ⟨A4, c4, rfl, _, _, _, _⟩ := ho4.rbn.open_
      clear ho4 hb4
      go_wp2_with fail
      refine (Load_any w4 _ u.all HR4.out).mono ?_
      rintro e w5 ⟨rfl, hd5, hb5⟩
      obtain ⟨p', hp'⟩ : ∃ p', p' = w4.heap.size + 2 := ⟨_, rfl⟩
      obtain ⟨sb', hsb'⟩ : ∃ sb', sb' = w4.heap.size := ⟨_, rfl⟩
      obtain ⟨mb', hmb'⟩ : ∃ mb', mb' = w4.heap.size + 1 := ⟨_, rfl⟩
      rw [← hp', ← hmb'] at hd5
      rw [← hsb'] at hd5
      rw [← hp']
      have HB4 : Hid (Below w.heap.size w w4) := Mod.own HB0.out HM4.out HOWN.out
      have HB5 : Hid (Below w.heap.size w w5) := HB4.out.trans (hb5.mono HB4.out.size)
      have hown' : w.heap.size ≤ p' ∧ w.heap.size ≤ sb' ∧ w.heap.size ≤ mb' := by have := HB4.out.size; omega
      have HOWN' := Lib.hid hown'
      have hap : ∀ k, Own p sb mb k → ¬ Own p' sb' mb' k := by
        obtain ⟨l1, l2, l3, _⟩ := HD4.out.lt
        rintro k (e | e | e) (e' | e' | e') <;> omega
      have HAP := Lib.hid hap
      have hd45 := HD4.out.below hb5
      have htwo : Two w5 p sb mb p' sb' mb' w5 u (DS.load u.all) := ⟨⟨_, hd45, fun b hb => by have := HD4.out.lt.2.2.2 b hb; rintro (e | e | e) <;> omega⟩, ⟨none, hd5, fun b hb => by cases hb⟩, Mod.refl _ _⟩
      have HT5 := Lib.hid htwo
      have hls : (DS.load u.all).steps = 0 := rfl
      have hll : (DS.load u.all).safe.length = 5 := by rw [← HAL.out.safe]; exact HL3.out
      obtain ⟨t, ht⟩ : ∃ t, t = DS.load u.all := ⟨_, rfl⟩
      rw [← ht] at hd5 htwo hls hll HAL HT5
      have HD5 := Lib.hid hd5
      have HLS := Lib.hid hls
      have HLL := Lib.hid hll
      clear ht hd5 hd45 htwo hls hll hap hown' hp' hsb' hmb' hb5 HD4 HD3 HM3 HM4 HR4
      go_wp2_with fail
      refine (Size_any w5 p' sb' mb' none t HD5.out).mono ?_
      rintro e w6 ⟨rfl, rfl⟩
      rw [HLL.out]
      go_wp2_with fail
      refine (Steps_any w5 p' sb' mb' none t HD5.out).mono ?_
      rintro e w6 ⟨rfl, rfl⟩
      rw [HLS.out]
      go_wp2_with fail
      go_loopw [50] (fun j wr => ∃ k : Nat, k ≤ os2.length ∧ j = .int .i64 k ∧ Hid (∃ s' t', Two w5 p sb mb p' sb' mb' wr s' t' ∧ Alike s' t' ∧ s'.steps ≤ 1000000000000002 + k ∧ t'.steps ≤ 1000000000000002 + k)) (fun j wr => os2.length - (intOf j).toNat)
      case atStart => exact ⟨0, Nat.zero_le _, rfl, u, t, HT5.out, HAL.out, by have := HS3.out; omega, by have := HLS.out; omega⟩
      case round =>
        obtain ⟨k, hkk, rfl, HS'⟩ := hrel
        obtain ⟨s', t', hl', hk', hst', hst2'⟩ := HS'.out
        have HL := Lib.hid hl'
        have HK' := Lib.hid hk'
        have HST' := Lib.hid hst'
        have HST2' := Lib.hid hst2'
        clear hl' hk' hst' hst2' HS'
        by_cases hkl : k < os2.length
        · obtain ⟨b1, o1, rfl, hb, hx⟩ := HA2.out k hkl
          have hbw : Below w.heap.size w wr := Mod.own2 HB5.out HL.out.mod HOWN.out HOWN'.out
          have hat := HSC2.out.at_ os2[k] (List.getElem_mem hkl)
          have hoff := HSC2.out.offB HOWN.out (List.getElem_mem hkl)
          obtain ⟨x, hxx⟩ : ∃ x, x = os2[k] := ⟨_, rfl⟩
          rw [← hxx] at hx hat hoff
          obtain ⟨y0, y1, y2, y3, y4⟩ := cellOp hx
          have z0 : wr.cell? ⟨b1, o1 + k * 5, none⟩ = _ := (hbw.cell (p := ⟨b1, o1 + k * 5, none⟩) hb).trans y0
          have z1 : wr.cell? ⟨b1, o1 + k * 5 + 1, none⟩ = _ := (hbw.cell (p := ⟨b1, o1 + k * 5 + 1, none⟩) hb).trans y1
          have z2 : wr.cell? ⟨b1, o1 + k * 5 + 2, none⟩ = _ := (hbw.cell (p := ⟨b1, o1 + k * 5 + 2, none⟩) hb).trans y2
          have z3 : wr.cell? ⟨b1, o1 + k * 5 + 3, none⟩ = _ := (hbw.cell (p := ⟨b1, o1 + k * 5 + 3, none⟩) hb).trans y3
          have z4 : wr.cell? ⟨b1, o1 + k * 5 + 4, none⟩ = _ := (hbw.cell (p := ⟨b1, o1 + k * 5 + 4, none⟩) hb).trans y4
          have HAT := Lib.hid (hat.1.below hbw)
          have hi64 := hat.2.2.1
          have hk64' := hat.2.1
          obtain ⟨D1, d1, e1, _, _, _, _⟩ := hat.1.data.open_
          obtain ⟨D2, d2, e2, _, _, _, _⟩ := hat.1.keeps.open_
          obtain ⟨D3, d3, e3, _, _, _, _⟩ := hat.1.fates.open_
          have HOFF := Lib.hid hoff
          have HXX := Lib.hid hxx
          clear y0 y1 y2 y3 y4 hx hat hoff hxx hbw
          obtain ⟨o, dv, kv, fv⟩ := x
          dsimp only at z0 z1 z2 z3 z4 e1 e2 e3 hi64 hk64'
          subst e1 e2 e3

          obtain ⟨kind, oi, data, keeps, fates⟩ := o
          dsimp only at z0 z1 z2 z3 z4 hi64 hk64' HAT HOFF
          have hoff2 := HSC2.out.offB HOWN'.out (List.getElem_mem hkl)
          rw [← HXX.out] at hoff2
          have HOFF2 := Lib.hid hoff2
          clear hoff2
          by_cases hk5 : kind = 5
          · subst hk5
            go_wp2_with fail
            have hrel5 : ∃ s'' t'', Two w5 p sb mb p' sb' mb' (wr.alloc (.cells (opC ⟨5, oi, data, keeps, fates⟩ (.slice D1 data.length d1) (.slice D2 keeps.length d2) (.slice D3 fates.length d3)) 37)) s'' t'' ∧ Alike s'' t'' ∧ s''.steps ≤ 1000000000000002 + (k + 1) ∧ t''.steps ≤ 1000000000000002 + (k + 1) :=
              ⟨s', t', HL.out.below ((Below.refl _ _).alloc (Nat.le_refl _) _), HK'.out, by have := HST'.out; omega, by have := HST2'.out; omega⟩
            have HR5 := Lib.hid hrel5
            clear hrel5
            go_roundw
            case rel => exact ⟨k + 1, by omega, by go_num, HR5⟩
            case measure => simp [intOf]; omega
          · have g5 : (kind == 5) = false := by simpa using hk5
            have hO : OpAt (wr.alloc (.cells (opC ⟨kind, oi, data, keeps, fates⟩ (.slice D1 data.length d1) (.slice D2 keeps.length d2) (.slice D3 fates.length d3)) 37)) ⟨kind, oi, data, keeps, fates⟩ (.slice D1 data.length d1) (.slice D2 keeps.length d2) (.slice D3 fates.length d3) := HAT.out.below ((Below.refl _ _).alloc (Nat.le_refl _) _)
            have HO := Lib.hid hO
            have hba1 : Below wr.heap.size wr (wr.alloc (.cells (opC ⟨kind, oi, data, keeps, fates⟩ (.slice D1 data.length d1) (.slice D2 keeps.length d2) (.slice D3 fates.length d3)) 37)) := (Below.refl _ _).alloc (Nat.le_refl _) _
            have hta := HL.out.below hba1
            have HTA := Lib.hid hta
            obtain ⟨pl1, hpl1, hno1⟩ := hta.d
            have HPL1 := Lib.hid hpl1
            have HNO1 := Lib.hid hno1
            have hbx : Blk (wr.alloc (.cells (opC ⟨kind, oi, data, keeps, fates⟩ (.slice D1 data.length d1) (.slice D2 keeps.length d2) (.slice D3 fates.length d3)) 37)) wr.heap.size 37 (opC ⟨kind, oi, data, keeps, fates⟩ (.slice D1 data.length d1) (.slice D2 keeps.length d2) (.slice D3 fates.length d3)) := Blk.new _ _ _
            have HBX := Lib.hid hbx
            have hnb : ¬ Own p sb mb wr.heap.size := by
              obtain ⟨pl2, h2, _⟩ := HL.out.d
              exact h2.own_lt (Nat.le_refl _)
            have HNB := Lib.hid hnb
            clear hO hta hpl1 hno1 hbx hnb
            go_wp2_with fail
            refine (do_any _ p sb mb pl1 _ ⟨kind, oi, data, keeps, fates⟩ _ _ _ HPL1.out HO.out HOFF.out (by have := HST'.out; omega)).mono ?_
            rintro e w6 ⟨rfl, pl6, hd6, hm6, hn6⟩
            have ht6 := HTA.out.left HAP.out HNO1.out hd6 hm6 hn6
            have HT6 := Lib.hid ht6
            have hbx6 := HBX.out.mod hm6 HNB.out
            have q0 : w6.cell? ⟨wr.heap.size, 0, none⟩ = some (.int .i64 kind) := hbx6.cell 0
            have q1 : w6.cell? ⟨wr.heap.size, 1, none⟩ = some (.int .i64 oi) := hbx6.cell 1
            have q2 : w6.cell? ⟨wr.heap.size, 2, none⟩ = some (.slice D1 data.length d1) := hbx6.cell 2
            have q3 : w6.cell? ⟨wr.heap.size, 3, none⟩ = some (.slice D2 keeps.length d2) := hbx6.cell 3
            have q4 : w6.cell? ⟨wr.heap.size, 4, none⟩ = some (.slice D3 fates.length d3) := hbx6.cell 4
            have hO6 : OpAt w6 ⟨kind, oi, data, keeps, fates⟩ (.slice D1 data.length d1) (.slice D2 keeps.length d2) (.slice D3 fates.length d3) := HO.out.mod hm6 HOFF.out
            have HO6 := Lib.hid hO6
            obtain ⟨pl2, hpl2, hno2⟩ := ht6.x
            have HPL2 := Lib.hid hpl2
            have HNO2 := Lib.hid hno2
            clear hd6 hm6 hn6 ht6 hbx6 hO6 hpl2 hno2 HPL1 HNO1 HTA HBX HNB HO
            go_wp2_with fail
            refine (do_any w6 p' sb' mb' pl2 _ ⟨kind, oi, data, keeps, fates⟩ _ _ _ HPL2.out HO6.out HOFF2.out (by have := HST2'.out; omega)).mono ?_
            rintro e w7 ⟨rfl, pl7, hd7, hm7, hn7⟩
            have ht7 := HT6.out.right HAP.out HNO2.out hd7 hm7 hn7
            have hal7 := HK'.out.run ⟨kind, oi, data, keeps, fates⟩ hk5
            have hs7 : (s'.run ⟨kind, oi, data, keeps, fates⟩).steps ≤ 1000000000000002 + (k + 1) := by have := HST'.out; have := run_steps s' ⟨kind, oi, data, keeps, fates⟩; omega
            have hs7' : (t'.run ⟨kind, oi, data, keeps, fates⟩).steps ≤ 1000000000000002 + (k + 1) := by have := HST2'.out; have := run_steps t' ⟨kind, oi, data, keeps, fates⟩; omega
            obtain ⟨s7, hs7e⟩ : ∃ s7, s7 = s'.run ⟨kind, oi, data, keeps, fates⟩ := ⟨_, rfl⟩
            obtain ⟨t7, ht7e⟩ : ∃ t7, t7 = t'.run ⟨kind, oi, data, keeps, fates⟩ := ⟨_, rfl⟩
            rw [← hs7e, ← ht7e] at ht7 hal7
            rw [← hs7e] at hs7
            rw [← ht7e] at hs7'
            have HT7 := Lib.hid ht7
            have HA7 := Lib.hid hal7
            have HS7 := Lib.hid hs7
            have HS7' := Lib.hid hs7'
            obtain ⟨pl8, hpl8, _⟩ := ht7.d
            obtain ⟨pl9, hpl9, _⟩ := ht7.x
            have HD7 := Lib.hid hpl8
            have HX7 := Lib.hid hpl9
            clear hd7 hm7 hn7 ht7 hal7 hs7 hs7' hs7e ht7e hpl8 hpl9 q0 q1 q2 q3 q4 HO6 HPL2 HNO2 HT6 hcv
            go_wp2_with fail
            refine (All_any w7 p sb mb _ s7 HD7.out).mono ?_
            rintro e w8 ⟨v8, rfl, ho8, hb8⟩
            have HR8 := Lib.hid ho8.rbn
            have HB8 := Lib.hid hb8
            obtain ⟨A8, c8, rfl, _, _, _, _⟩ := ho8.rbn.open_
            clear ho8 hb8
            go_wp2_with fail
            refine (All_any w8 p' sb' mb' _ t7 (HX7.out.below HB8.out)).mono ?_
            rintro e w9 ⟨v9, rfl, ho9, hb9⟩
            rw [← HA7.out.all] at ho9
            have HR9 := Lib.hid ho9.rbn
            have HR8' := Lib.hid ((HR8.out.below hb9).more hb9.size)
            have HB9 := Lib.hid (HB8.out.trans (hb9.mono HB8.out.size))
            obtain ⟨A9, c9, rfl, _, _, _, _⟩ := ho9.rbn.open_
            clear ho9 hb9
            go_wp2_with fail
            refine (same_yes _ _ _ w9 _ HR8'.out HR9.out).mono ?_
            rintro e wa1 ⟨rfl, m1, rfl⟩
            have hd1 := below_drewN w9 m1
            have HB10 := Lib.hid (HB9.out.trans (hd1.mono HB9.out.size))
            clear hd1
            go_wp2_with fail
            refine (Safe_any _ p sb mb _ s7 (HD7.out.below HB10.out)).mono ?_
            rintro e w11 ⟨v11, rfl, ho11, hb11⟩
            have HR11 := Lib.hid ho11.rbn
            have HB11 := Lib.hid (HB10.out.trans (hb11.mono HB10.out.size))
            obtain ⟨A11, c11, rfl, _, _, _, _⟩ := ho11.rbn.open_
            clear ho11 hb11
            go_wp2_with fail
            refine (Safe_any w11 p' sb' mb' _ t7 (HX7.out.below HB11.out)).mono ?_
            rintro e w12 ⟨v12, rfl, ho12, hb12⟩
            rw [← HA7.out.safes] at ho12
            have HR12 := Lib.hid ho12.rbn
            have HR11' := Lib.hid ((HR11.out.below hb12).more hb12.size)
            have HB12 := Lib.hid (HB11.out.trans (hb12.mono HB11.out.size))
            obtain ⟨A12, c12, rfl, _, _, _, _⟩ := ho12.rbn.open_
            clear ho12 hb12
            go_wp2_with fail
            refine (same_yes _ _ _ w12 _ HR11'.out HR12.out).mono ?_
            rintro e wa2 ⟨rfl, m2, rfl⟩
            have hd2 := below_drewN w12 m2
            have HB13 := Lib.hid (HB12.out.trans (hd2.mono HB12.out.size))
            clear hd2
            go_wp2_with fail
            refine (Loose_any _ p sb mb _ s7 (HD7.out.below HB13.out)).mono ?_
            rintro e w14 ⟨v14, rfl, ho14, hb14⟩
            have HR14 : Hid (RI w14 w14.heap.size v14 s7.loose) := ho14.rk encI_len (Nat.le_refl _)
            have HB14 := Lib.hid (HB13.out.trans (hb14.mono HB13.out.size))
            obtain ⟨A14, c14, rfl, _, _, _, _⟩ := HR14.out.open_
            clear ho14 hb14
            go_wp2_with fail
            refine (Loose_any w14 p' sb' mb' _ t7 (HX7.out.below HB14.out)).mono ?_
            rintro e w15 ⟨v15, rfl, ho15, hb15⟩
            rw [← HA7.out.loose] at ho15
            have HR15 : Hid (RI w15 w15.heap.size v15 s7.loose) := ho15.rk encI_len (Nat.le_refl _)
            have HR14' : Hid (RI w15 w15.heap.size _ s7.loose) := (HR14.out.below hb15).more hb15.size
            have HB15 := Lib.hid (HB14.out.trans (hb15.mono HB14.out.size))
            obtain ⟨A15, c15, rfl, _, _, _, _⟩ := HR15.out.open_
            clear ho15 hb15
            go_wp2_with fail
            refine (SameInts_yes _ _ _ w15 _ _ HR14'.out HR15.out).mono ?_
            rintro e wa3 ⟨rfl, m3, rfl⟩
            have hd3 := below_drewN w15 m3
            have HB16 := Lib.hid (HB15.out.trans (hd3.mono HB15.out.size))
            clear hd3
            have hrel7 : ∃ s'' t'', Two w5 p sb mb p' sb' mb' (w15.drewN m3) s'' t'' ∧ Alike s'' t'' ∧ s''.steps ≤ 1000000000000002 + (k + 1) ∧ t''.steps ≤ 1000000000000002 + (k + 1) :=
              ⟨s7, t7, HT7.out.below HB16.out, HA7.out, HS7.out, HS7'.out⟩
            have HR7 := Lib.hid hrel7
            clear hrel7
            go_wp2_with fail
            go_roundw
            case rel => exact ⟨k + 1, by omega, by go_num, HR7⟩
            case measure => simp [intOf]; omega
        · obtain rfl : k = os2.length := by omega
          clear HA2 HSC2
          have HBE : Hid (Below w.heap.size w wr) := Mod.own2 HB5.out HL.out.mod HOWN.out HOWN'.out
          obtain ⟨pl8, hpl8, hno8⟩ := HL.out.d
          obtain ⟨pl9, hpl9, hno9⟩ := HL.out.x
          have HD7 := Lib.hid hpl8
          have HX7 := Lib.hid hpl9
          have HNO9 := Lib.hid hno9
          clear hpl8 hpl9 hno8 hno9
          go_wp2_with fail
          refine (All_any wr p' sb' mb' _ t' HX7.out).mono ?_
          rintro e w8 ⟨v8, rfl, ho8, hb8⟩
          have HO8 := Lib.hid ho8
          have HB8 : Hid (Below w.heap.size w w8) := HBE.out.trans (hb8.mono HBE.out.size)
          have HX8 := Lib.hid (HX7.out.below hb8)
          have HD8 := Lib.hid (HD7.out.below hb8)
          obtain ⟨A8, c8, rfl, _, _, _, _⟩ := ho8.rbn.open_
          have HZ8 := Lib.hid hb8.size
          clear ho8 hb8
          go_wp2_with fail
          have hba9 : Below w8.heap.size w8 (w8.alloc (.cells #[.int .u8 111, .int .u8 116, .int .u8 104, .int .u8 101, .int .u8 114] 5 (5, 6))) := (Below.refl _ _).alloc (Nat.le_refl _) _
          have hr9 : RB (w8.alloc (.cells #[.int .u8 111, .int .u8 116, .int .u8 104, .int .u8 101, .int .u8 114] 5 (5, 6))) (w8.alloc (.cells #[.int .u8 111, .int .u8 116, .int .u8 104, .int .u8 101, .int .u8 114] 5 (5, 6))).heap.size (.slice (some ⟨w8.heap.size, 0, none⟩) 5 5) [111, 116, 104, 101, 114] :=
            RB.newRow w8 _ w8.heap.size #[.int .u8 111, .int .u8 116, .int .u8 104, .int .u8 101, .int .u8 114] 5 [111, 116, 104, 101, 114] 5 rfl rfl (by simp) (by simp) (by simp) (by omega) (by simp) (5, 6)
          have HR9 := Lib.hid hr9
          have hoffa : Off (fun k => k = p) (.slice (some ⟨w8.heap.size, 0, none⟩) 5 5) [111, 116, 104, 101, 114] := .inr (fun b e h => by simp [Value.ownBlock] at e; have h : b = p := h; have := HD8.out.lt.1; omega)
          have hro8 : RB w8 w8.heap.size (.slice A8 t'.all.length c8) t'.all := HO8.out.rbn
          have hoff8 : Off (Own p sb mb) (.slice A8 t'.all.length c8) t'.all := .inr (fun b e h => HD7.out.own_lt (HO8.out.lt b e).1 h)
          have HDa := Lib.hid (HD8.out.below hba9)
          have HXa := Lib.hid (HX8.out.below hba9)
          have HOa : Hid (RB _ _ (.slice A8 t'.all.length c8) t'.all) := Lib.hid ((hro8.below hba9).more hba9.size)
          have HBa := Lib.hid (HB8.out.trans (hba9.mono HB8.out.size))
          have HOFA := Lib.hid hoffa
          have HOF8 := Lib.hid hoff8
          have hsts : s'.steps < 4611686018427387904 := by have := HST'.out; omega
          clear hba9 hr9 hro8 hoff8 hoffa
          refine (Write_any _ p sb mb _ s' 0 _ [111, 116, 104, 101, 114] HDa.out hsts HR9.out HOFA.out).mono ?_
          rintro e w10 ⟨rfl, hd10, hm10⟩
          have HX10 := Lib.hid (HXa.out.mod hm10 (fun e => HAP.out _ e (.inl rfl)) (fun e => HAP.out _ e (.inr (.inl rfl))) (fun e => HAP.out _ e (.inr (.inr rfl))) HNO9.out)
          have HO10 := Lib.hid (HOa.out.mod hm10 HOF8.out)
          have HB10 : Hid (Below w.heap.size w w10) := Mod.own HBa.out hm10 HOWN.out
          clear hd10 hm10 hcv
          go_wp2_with fail
          refine (All_any w10 p' sb' mb' _ t' HX10.out).mono ?_
          rintro e w11 ⟨v11, rfl, ho11, hb11⟩
          have HR11 := Lib.hid ho11.rbn
          have HO11 := Lib.hid ((HO10.out.below hb11).more hb11.size)
          have HB11 := Lib.hid (HB10.out.trans (hb11.mono HB10.out.size))
          obtain ⟨A11, c11, rfl, _, _, _, _⟩ := ho11.rbn.open_
          clear ho11 hb11
          go_wp2_with fail
          refine (same_yes _ _ _ w11 _ HR11.out HO11.out).mono ?_
          rintro e w12 ⟨rfl, m12, rfl⟩
          have hd12 := below_drewN w11 m12
          have HB12 := Lib.hid (HB11.out.trans (hd12.mono HB11.out.size))
          clear hd12
          go_wp2_with fail
          go_ret
          exact ⟨rfl, HB12.out⟩
end Go.Proofs.Ytjjjikiopbmogaa
