/-
  The walk of WalCrash.
-/
import Derived.Test.YtliimkcainefpaaZV33
namespace Go.Proofs.Ytliimkcainefpaa
open Go.RowKit Go.Maps
set_option linter.unusedVariables false

/-- What holds between two rounds. -/
def Round (w wr : World) (ov : Value) (L : List OpC) (count : Nat) (p sb mb g : Nat) (Ak At : Option Addr) (nk ck nt ct : Nat) (maybe : Bool) (last : Int) (k : Nat) : Prop :=
  ∃ B pl s m sv bv ks ts rs, CrashAt w wr p sb mb g B pl s m sv bv (.slice Ak nk ck) (.slice At nt ct) ks ts rs maybe last k count ∧ OpRow w wr ov L
theorem Round.mk {w wr : World} {ov : Value} {L : List OpC} {count p sb mb g B : Nat} {pl : Option Nat} {s : DS} {m : LG} {sv bv kv tv : Value} {ks ts : List RecV} {rs : List RecT} {maybe : Bool} {last : Int} {k : Nat} (h : CrashAt w wr p sb mb g B pl s m sv bv kv tv ks ts rs maybe last k count) (hr : OpRow w wr ov L) :
    ∃ Ak nk ck At nt ct, kv = .slice Ak nk ck ∧ tv = .slice At nt ct ∧ Round w wr ov L count p sb mb g Ak At nk ck nt ct maybe last k := by
  obtain ⟨A, c, e, _⟩ := h.rowK.1.open_
  obtain ⟨A', c', e', _⟩ := h.rowT.1.open_
  subst e e'
  exact ⟨_, _, _, _, _, _, rfl, rfl, _, _, _, _, _, _, _, _, _, h, hr⟩

theorem CrashAt.app_yes {w wr : World} {p sb mb g B : Nat} {pl : Option Nat} {s : DS} {m : LG} {sv bv kv tv : Value} {ks ts : List RecV} {rs : List RecT} {maybe : Bool} {last : Int} {k count : Nat} (h : CrashAt w wr p sb mb g B pl s m sv bv kv tv ks ts rs maybe last k count) {on : Int} {data : List Nat} {m3 : LG} {a3 : Nat} (hra : (m3, a3, (0 : Int)) = m.append on data) (hb : ∀ x ∈ data, x < 256) :
    ∃ kn : Nat, on = (kn : Int) ∧ a3 = m.lsn m.st.length ∧ m3 = { m with st := m.st ++ recL kn data, begs := m.begs ++ [m.st.length] } ∧ Good s m3 (rs ++ [(kn, data)]) ∧ m.fresh = true := by
  rcases h.st with ⟨h1, h2, h3⟩ | ⟨h1, h2⟩
  · rcases h2.append on data hb with ⟨e1, e2, e3, e4, e5, e6, e7, e8⟩ | ⟨e1, _⟩
    · obtain ⟨kn, rfl⟩ : ∃ kn : Nat, on = (kn : Int) := ⟨on.toNat, by omega⟩
      rw [← hra] at e6 e7 e8
      rw [Int.toNat_natCast] at e7 e8
      exact ⟨kn, rfl, e6, e7, e8, h3⟩
    · rw [← hra] at e1; exact absurd rfl e1
  · rw [dead_append on data h1] at hra
    injection hra with _ hra
    injection hra with _ hra
    exact absurd hra (by decide)
theorem CrashAt.app_no {w wr : World} {p sb mb g B : Nat} {pl : Option Nat} {s : DS} {m : LG} {sv bv kv tv : Value} {ks ts : List RecV} {rs : List RecT} {maybe : Bool} {last : Int} {k count : Nat} (h : CrashAt w wr p sb mb g B pl s m sv bv kv tv ks ts rs maybe last k count) {on : Int} {data : List Nat} {m3 : LG} {a3 : Nat} {e3 : Int} (hra : (m3, a3, e3) = m.append on data) (he : e3 ≠ 0) (hb : ∀ x ∈ data, x < 256) : m3 = m := by
  rcases h.st with ⟨h1, h2, h3⟩ | ⟨h1, h2⟩
  · rcases h2.append on data hb with ⟨e1, _⟩ | ⟨_, _, e1⟩
    · rw [← hra] at e1; exact absurd e1 he
    · rw [← hra] at e1; exact e1
  · rw [dead_append on data h1] at hra
    injection hra
theorem After.next {w w6 : World} {p sb mb g' B' plb : Nat} {s s' : DS} {m : LG} {sv bv : Value} {ks ts : List RecV} {maybe : Bool} {last : Int} {k count : Nat} (h : After s s' m ks ts maybe last k count) (h9 : count ≤ 9) (hw : WalAt w6 p sb mb (some plb) ((LG.opened s' 1 count).reset s').1 g' B' sv bv ((LG.opened s' 1 count).reset s').2.1) (hz : w.heap.size ≤ p ∧ w.heap.size ≤ sb ∧ w.heap.size ≤ mb ∧ w.heap.size ≤ B') (hb : Below w.heap.size w w6) :
    CrashAt w w6 p sb mb g' B' (some plb) ((LG.opened s' 1 count).reset s').1 (LG.opened s' 1 count).anew sv bv (.slice none 0 0) (.slice none 0 0) [] [] [] false last (k + 1) count := by
  rw [h.anew] at hw
  refine ⟨hw, hz, hb, OK.nil _ _, OK.nil _ _, .inl rfl, by simp, rfl, ?_, h.steps, rfl, rfl, h9, h.most, h.good.recs, Nat.zero_le _, .inl ⟨h.good.dead, h.good, rfl⟩⟩
  have := h.last
  rw [lsn_cast]
  show last < (((LG.opened s' 1 count).most + 1 : Nat) : Int) * 16777216 + ((0 : Nat) : Int)
  omega

set_option maxRecDepth 100000 in
set_option maxHeartbeats 4000000 in
theorem walCrash_run (w : World) (count : Nat) (ov : Value) (os : List OpC) (hc : 1 ≤ count ∧ count ≤ 9) (hO : OpsAt w ov os) :
    Calls Try.prog 5 #[.int .i64 (count : Int), ov] w fun e w' => e = .returned (.bool true) ∧ Below w.heap.size w w' := by
  obtain ⟨AO, cO, rfl, _, _, _, _⟩ := hO.rk.open_
  obtain ⟨NO, hNO⟩ : ∃ NO, NO = os.length := ⟨_, rfl⟩
  rw [← hNO] at hO ⊢
  have HO := Lib.hid hO
  have HNO := Lib.hid hNO
  have hc1 : ¬ (count : Int) < 1 := by omega
  have hc2 : ¬ (9 : Int) < (count : Int) := by omega
  have HCC := Lib.hid hc
  obtain ⟨s0, hs0⟩ : ∃ s0, s0 = begS (DS.new 10) 1 count := ⟨_, rfl⟩
  obtain ⟨m0, hm0⟩ : ∃ m0, m0 = begL (DS.new 10) 1 count := ⟨_, rfl⟩
  have hbg : Begun (DS.new 10) 1 count := begun_new 10 1 count (by omega) (by omega) (by omega)
  have HG0 : Hid (Good s0 m0 []) := Lib.hid (by rw [hs0, hm0]; exact hbg.good)
  have HF0 : Hid (m0.first = 1 ∧ m0.count = count ∧ m0.fresh = true ∧ m0.most = 2 ∧ m0.run = 2 ∧ m0.st = []) := Lib.hid (by
    have h2 : m0.most = 2 := by rw [hm0]; show (fmtL (DS.new 10) 1 count).most + 1 = 2; rw [hbg.most]
    have h3 : m0.run = 2 := by rw [hm0]; show (fmtL (DS.new 10) 1 count).most + 1 = 2; rw [hbg.most]
    exact ⟨by rw [hm0]; rfl, by rw [hm0]; rfl, by rw [hm0]; rfl, h2, h3, by rw [hm0]; rfl⟩)
  have HS4 : Hid (s0.steps ≤ 4) := Lib.hid (by have := hbg.steps2; rw [hs0]; exact this)
  have HMD : Hid (∀ W : World, Calls Try.prog 25 #[.int .i64 (count : Int)] W (MadeOut W s0 m0)) := Lib.hid (fun W => by rw [hs0, hm0]; exact made_any W count hc)
  clear hO hNO hbg hs0 hm0 hc
  go_enter Try.func5, Try.ntmps5
  go_wp2_with fail
  refine (alive9_any w).mono ?_
  rintro e Wa ⟨rfl, hba⟩
  have HBA := Lib.hid hba
  clear hba
  go_wp2_with fail
  refine (HMD.out Wa).mono ?_
  rintro e W0 ⟨p, sb, mb, g, B, sv, bv, rfl, hw0, hz0, hb0⟩
  have HW0 := Lib.hid hw0
  have HZ : Hid (w.heap.size ≤ p ∧ w.heap.size ≤ sb ∧ w.heap.size ≤ mb ∧ w.heap.size ≤ B) := Lib.hid (by have := HBA.out.size; omega)
  have HB0 : Hid (Below w.heap.size w W0) := Lib.hid (HBA.out.trans (hb0.mono HBA.out.size))
  clear hw0 hz0 hb0
  have hzb := HB0.out.size
  obtain ⟨W2, hW2⟩ : ∃ W2, W2 = (W0.alloc (.cells #[] 65)).alloc (.cells #[] 65) := ⟨_, rfl⟩
  have hz2 : W2.heap.size = W0.heap.size + 2 := by rw [hW2]; simp
  have hb2 : Below W0.heap.size W0 W2 := by rw [hW2]; exact ((Below.refl _ _).alloc (Nat.le_refl _) _).alloc (by simp) _
  have hk2 : OK encRec 3 65 W2 w.heap.size (.slice (some ⟨W0.heap.size, 0, none⟩) 0 0) [] := by
    rw [hW2]
    have h1 : OK encRec 3 65 (W0.alloc (.cells #[] 65)) w.heap.size (.slice (some ⟨W0.heap.size, 0, none⟩) 0 0) [] := ⟨by simp, World.ownsRow_made W0 #[] 0 HB0.out.size (by simp) (by simp)⟩
    exact h1.alloc _
  have ht2 : OK encRec 3 65 W2 w.heap.size (.slice (some ⟨W0.heap.size + 1, 0, none⟩) 0 0) [] := by
    rw [hW2]
    have h1 : OK encRec 3 65 ((W0.alloc (.cells #[] 65)).alloc (.cells #[] 65)) w.heap.size (.slice (some ⟨(W0.alloc (.cells #[] 65)).heap.size, 0, none⟩) 0 0) [] := ⟨by simp, World.ownsRow_made _ #[] 0 (by simp; omega) (by simp) (by simp)⟩
    rw [size_alloc_] at h1
    exact h1
  have hcr : CrashAt w W2 p sb mb g B none s0 m0 sv bv (.slice (some ⟨W0.heap.size, 0, none⟩) 0 0) (.slice (some ⟨W0.heap.size + 1, 0, none⟩) 0 0) [] [] [] false (-1) 0 count := by
    obtain ⟨f1, f2, f3, f4, f5, f6⟩ := HF0.out
    refine ⟨HW0.out.below hb2, HZ.out, HB0.out.trans (hb2.mono HB0.out.size), hk2, ht2, .inr (by simp [Value.ownBlock]), by simp, rfl, by omega, by have := HS4.out; omega, f1, f2, HCC.out.2, by omega, HG0.out.recs, Nat.zero_le _, .inl ⟨HG0.out.dead, HG0.out, f3⟩⟩
  have ho3 : OK encO 6 61 (W2.alloc (.cells #[] 61)) (W0.heap.size + 2) (.slice (some ⟨W0.heap.size + 2, 0, none⟩) 0 0) [] := by
    have h1 : OK encO 6 61 (W2.alloc (.cells #[] 61)) (W0.heap.size + 2) (.slice (some ⟨W2.heap.size, 0, none⟩) 0 0) [] := ⟨by simp, World.ownsRow_made _ #[] 0 (by omega) (by simp) (by simp)⟩
    rw [hz2] at h1
    exact h1
  have HC2 := Lib.hid hcr
  have HZ2 := Lib.hid hz2
  have hba3 : Below (W0.heap.size + 2) W2 (W2.alloc (.cells #[] 61)) := (Below.refl _ _).alloc (by omega) _
  have HBA3 := Lib.hid hba3
  have hos : RK encO 6 (W2.alloc (.cells #[] 61)) (W2.alloc (.cells #[] 61)).heap.size (.slice AO NO cO) os := ((HO.out.rk.below hcr.below).more hcr.below.size).alloc (Nat.le_refl _) _ |>.more (by simp)
  have hsz3 : (W2.alloc (.cells #[] 61)).heap.size = W0.heap.size + 3 := by simp [hz2]
  have HSZ3b := Lib.hid hsz3
  rw [hW2] at ho3 hos hsz3
  have HO3 := Lib.hid ho3
  have HOS := Lib.hid hos
  have HSZ3 := Lib.hid hsz3
  have HW2 := Lib.hid hW2
  have hsz0 : (W0.alloc (.cells #[] 65)).heap.size = W0.heap.size + 1 := by rw [size_alloc_]
  have hsz1 : ((W0.alloc (.cells #[] 65)).alloc (.cells #[] 65)).heap.size = W0.heap.size + 2 := by rw [size_alloc2_]
  clear hb2 hk2 ht2 ho3 hcr hz2 hba3 hos hsz3 hW2
  go_wp2_with (first
    | (at_builtin; refine wpList_appN etO encO_len encO_one rfl (.tmp 40) (.tmp 41) rfl rfl HO3.out rfl HOS.out (by have := HO.out.len; simp; omega) (by rw [HSZ3.out]; omega) ?_; rw [← HW2.out]; intro v4 W4 k1 k2 k3; rw [List.nil_append] at k1; obtain ⟨A4, c4, hv4, _⟩ := (k1.rk encO_len (Nat.le_refl _)).open_; rw [← HNO.out] at hv4; subst hv4; have K1 := Lib.hid k1; have HB4 : Hid (Below (W0.heap.size + 2) W2 W4) := Lib.hid (HBA3.out.grown k2 (by rw [HSZ3b.out]; omega) (fun b hb => (HO3.out.lt b hb).1)); have HZ4 : Hid (W0.heap.size + 2 ≤ W4.heap.size) := Lib.hid (by have h := k2.size; rw [HSZ3b.out] at h; omega); clear k1 k2 k3)
    | (at_builtin; refine wpList_appN etO encO_len encO_one rfl (.tmp 42) (.tmp 44) rfl rfl (K1.out.alloc _) (ys := [opEnd]) rfl (RK.one_ encO_len W4 _ _ opEnd (by rfl) (by omega)) (by have := HO.out.len; simp; omega) (by have := HZ4.out; simp; omega) ?_; intro v5 W5 k1 k2 k3; obtain ⟨A5, c5, hv5, _⟩ := (k1.rk encO_len (Nat.le_refl _)).open_; obtain ⟨N, hN⟩ : ∃ N, N = (os ++ [opEnd]).length := ⟨_, rfl⟩; rw [← hN] at hv5; subst hv5; have K2 := Lib.hid k1; have HB5 : Hid (Below (W0.heap.size + 2) W2 W5) := Lib.hid ((HB4.out.alloc HZ4.out _).grown k2 (by have := HZ4.out; simp; omega) (fun b hb => (K1.out.lt b hb).1)); have HN := Lib.hid hN; clear k1 k2 k3 hN))
  obtain ⟨L, hL⟩ : ∃ L, L = os ++ [opEnd] := ⟨_, rfl⟩
  have HL : Hid (∀ x ∈ L, OpCAt w x) := Lib.hid (fun x hx => by
    rw [hL] at hx
    rcases List.mem_append.1 hx with hx | hx
    · exact HO.out.at_ x hx
    · rw [List.mem_singleton.1 hx]; exact opEnd_at w)
  have hNb : N ≤ 1900001 := by rw [HN.out, List.length_append]; have := HO.out.len; simp; omega
  rw [← hL] at K2 HN
  have hform5 : ∃ b5, A5 = some ⟨b5, 0, none⟩ := by
    rcases K2.out.2.2 with ⟨e, hn⟩ | ⟨g5, cap5, cur5, e, _⟩
    · have := HN.out; rw [hL, List.length_append, List.length_singleton] at hn; omega
    · injection e with e _ _; exact ⟨g5, e⟩
  obtain ⟨b5, rfl⟩ := hform5
  have HR5 : Hid (Round w W5 (.slice (some ⟨b5, 0, none⟩) N c5) L count p sb mb g (some ⟨W0.heap.size, 0, none⟩) (some ⟨W0.heap.size + 1, 0, none⟩) 0 0 0 0 false (-1) 0) := Lib.hid ⟨_, _, _, _, _, _, _, _, _, HC2.out.below_ (by rw [HZ2.out]; exact HB5.out), K2.out.base (by omega)⟩
  clear hL HC2 HB5 HB4 K1 hsz0 hsz1 HO3 HOS HBA3 HG0 HF0 HS4 HMD
  go_loopw [47, 6, 7, 8, 9, 10] (fun i l kv tv la mb0 wr => ∃ (k gl : Nat) (Ak At : Option Addr) (nk ck nt ct : Nat) (maybe : Bool) (last : Int), i = .int .i64 k ∧ l = .pointer (some ⟨gl, 0, none⟩) ∧ kv = .slice Ak nk ck ∧ tv = .slice At nt ct ∧ la = .int .i64 last ∧ mb0 = .bool maybe ∧ k ≤ N ∧ Hid (Round w wr (.slice (some ⟨b5, 0, none⟩) N c5) L count p sb mb gl Ak At nk ck nt ct maybe last k)) (fun i l kv tv la mb0 wr => N - (intOf i).toNat)
  case atStart => exact ⟨0, g, _, _, _, _, _, _, false, -1, rfl, rfl, rfl, rfl, rfl, rfl, Nat.zero_le _, HR5⟩
  case round =>
    obtain ⟨k, gl, Ak, At, nk, ck, nt, ct, maybe, last, rfl, rfl, rfl, rfl, rfl, rfl, hk, HR⟩ := hrel
    obtain ⟨B, pl, s, m, sv, bv, ks, ts, rs, hcr, hrow⟩ := HR.out
    have HC := Lib.hid hcr
    have HROW := Lib.hid hrow
    have hk2m : k ≤ 2000000 := by omega
    by_cases hkN : k < N
    · obtain ⟨A', c', e', _, _, _, hcells⟩ := (hrow.rk encO_len (Nat.le_refl _)).open_
      obtain ⟨bo, off, hA5, hblt, hcell⟩ := hcells.out k (by rw [← HN.out]; exact hkN)
      injection e' with e1 e7 e8
      rw [← e1] at hA5
      clear e7 e8
      injection hA5 with hA5
      injection hA5 with e5 e6
      subst e5
      subst e6
      obtain ⟨x, hx⟩ : ∃ x, x = L[k]'(by rw [← HN.out]; exact hkN) := ⟨_, rfl⟩
      rw [← hx] at hcell
      have hxat := HL.out x (by rw [hx]; exact List.getElem_mem _)
      obtain ⟨ok, on, ot, dA, dn, dc, kA, kn, kc, fA, fn, fc, data, keeps, fates⟩ := x
      obtain ⟨x0, x1, x2, x3, x4, x5⟩ := cellO hcell
      dsimp only at x0 x1 x2 x3 x4 x5
      rw [Nat.zero_add] at x0 x1 x2 x3 x4 x5
      have HXW := Lib.hid hxat
      have HXR := Lib.hid (hxat.below hcr.below)
      have hbwr := hcr.below.size
      clear hcell hcells hx hxat hcr hrow e1
      by_cases hk1 : ok = 1
      · subst hk1
        have HBA1 : Hid (Below wr.heap.size wr (wr.alloc (.cells #[.int .i64 1, .int .i64 on, .int .i64 ot, .slice dA dn dc, .slice kA kn kc, .slice fA fn fc] 61))) := Lib.hid ((Below.refl _ _).alloc (Nat.le_refl _) _)
        have HC1 : Hid (CrashAt w (wr.alloc (.cells #[.int .i64 1, .int .i64 on, .int .i64 ot, .slice dA dn dc, .slice kA kn kc, .slice fA fn fc] 61)) p sb mb gl B pl s m sv bv (.slice Ak nk ck) (.slice At nt ct) ks ts rs maybe last k count) := Lib.hid (HC.out.below_ HBA1.out)
        have HROW1 : Hid (OpRow w (wr.alloc (.cells #[.int .i64 1, .int .i64 on, .int .i64 ot, .slice dA dn dc, .slice kA kn kc, .slice fA fn fc] 61)) (.slice (some ⟨b5, 0, none⟩) N c5) L) := Lib.hid (HROW.out.alloc _)
        have HX1 : Hid (OpCAt (wr.alloc (.cells #[.int .i64 1, .int .i64 on, .int .i64 ot, .slice dA dn dc, .slice kA kn kc, .slice fA fn fc] 61)) ⟨1, on, ot, dA, dn, dc, kA, kn, kc, fA, fn, fc, data, keeps, fates⟩) := Lib.hid (HXR.out.below HBA1.out)
        have HBX1 : Hid (Blk (wr.alloc (.cells #[.int .i64 1, .int .i64 on, .int .i64 ot, .slice dA dn dc, .slice kA kn kc, .slice fA fn fc] 61)) wr.heap.size 61 #[.int .i64 1, .int .i64 on, .int .i64 ot, .slice dA dn dc, .slice kA kn kc, .slice fA fn fc]) := Lib.hid (Blk.new _ _ _)
        have hst15 : Hid (s.steps < 1000000000000000) := Lib.hid (by have := HC.out.steps; omega)
        have hst0 : Hid (s.steps ≤ 1000000000000) := Lib.hid (by have := HC.out.steps; omega)

        have HNLT : Hid (∀ j, OwnL gl sv bv j → j < wr.heap.size) := Lib.hid (fun j hj => (HC.out.wal.lg.own j hj).2)
        have hc1000 : Hid (m.count ≤ 1000) := Lib.hid (by rw [HC.out.cnt]; have := HC.out.cnt9; omega)
        have HDB : Hid (∀ y ∈ data, y < 256) := Lib.hid HXW.out.data.1
        go_wp2_with fail
        go_region_law (first
          | (go_simp; go_at_call 27; refine (copy_any _ data _ (HX1.out.data.drewN 1)).mono ?_; rintro e w2 ⟨v2, rfl, ho2, hb2⟩; have hbx2 := (below_drewN (Below.refl _ (wr.alloc (.cells #[.int .i64 1, .int .i64 on, .int .i64 ot, .slice dA dn dc, .slice kA kn kc, .slice fA fn fc] 61)) ) 1).trans hb2; have HC2 : Hid (CrashAt w w2 p sb mb gl B pl s m sv bv (.slice Ak nk ck) (.slice At nt ct) ks ts rs maybe last k count) := Lib.hid (HC1.out.below_ hbx2); have HROW2 : Hid (OpRow w w2 (.slice (some ⟨b5, 0, none⟩) N c5) L) := Lib.hid (OK.below HROW1.out hbx2); have HBX2 := Lib.hid (HBX1.out.below hbx2 (by simp)); have hf2 : ∃ A2 n2 c2, v2 = Value.slice A2 n2 c2 := (by obtain ⟨A, c, h, _⟩ := ho2.rbn.open_; exact ⟨_, _, _, h⟩); obtain ⟨A2, n2, c2, rfl⟩ := hf2; have HO2 := Lib.hid ho2.rbn; have bx1 : w2.cell? ⟨wr.heap.size, 1, none⟩ = some (.int .i64 on) := HBX2.out.cell 1; have bx3 : w2.cell? ⟨wr.heap.size, 3, none⟩ = some (.slice dA dn dc) := HBX2.out.cell 3; clear ho2 hb2 hbx2)
          | (go_simp; go_at_call 26; refine (Append_any w2 p sb mb gl B pl s sv bv m HC2.out.wal hc1000.out on _ data HO2.out).mono ?_; obtain ⟨ra, hra⟩ : ∃ ra, ra = m.append on data := ⟨_, rfl⟩; rw [← hra]; rintro e w3 ⟨rfl, ⟨sv3, bv3, hw3⟩, hm3⟩; obtain ⟨m3, a3, e3⟩ := ra; have HRA := Lib.hid hra; have HW3 : Hid (WalAt w3 p sb mb pl s gl B sv3 bv3 m3) := Lib.hid hw3; have HM3 := Lib.hid hm3; have HBX3 := Lib.hid (HBX2.out.mod hm3 (fun hj => by have := HNLT.out _ hj; omega)); have cx1 : w3.cell? ⟨wr.heap.size, 1, none⟩ = some (.int .i64 on) := HBX3.out.cell 1; have cx3 : w3.cell? ⟨wr.heap.size, 3, none⟩ = some (.slice dA dn dc) := HBX3.out.cell 3; clear hw3 hm3 hra))
        all_goals (
          by_cases he3 : e3 = 0
          · subst he3
            obtain ⟨kx, rfl, rfl, hm3e, hgd, hfr⟩ := HC2.out.app_yes HRA.out HDB.out
            have HGD := Lib.hid hgd
            have HME := Lib.hid hm3e
            have HFR := Lib.hid hfr
            have hla : ¬ (m.lsn m.st.length : Int) ≤ last := by have := HC2.out.last; omega
            have HT3 : Hid (OK encRec 3 65 w3 w.heap.size (.slice At nt ct) ts) := Lib.hid (HC2.out.tr.mod HM3.out (fun b hb => (HC2.out.apartT b hb).2.1))
            have HZ3 : Hid (w.heap.size ≤ w3.heap.size) := Lib.hid (Nat.le_trans HC2.out.below.size HM3.out.size)
            obtain ⟨a3, ha3⟩ : ∃ a3, a3 = m.lsn m.st.length := ⟨_, rfl⟩
            rw [← ha3] at hla ⊢
            have HA3 := Lib.hid ha3
            clear hgd hm3e hfr ha3
            go_wp2_with (first
              | (at_builtin; refine wpList_appN etR encRec_len encRec_one rfl (.tmp 71) (.tmp 78) rfl rfl (HT3.out.alloc _) (ys := [⟨a3, kx, dA, dn, dc, data⟩]) rfl (RK.one_ encRec_len w3 _ _ _ (by rfl) (by omega)) (by have := HC2.out.lens; simp; omega) (by have := HZ3.out; simp; omega) ?_; intro v4 w4 k1 k2 k3; have hcr' := HC2.out.appendYes HW3.out HM3.out HGD.out HME.out HFR.out (x := ⟨a3, kx, dA, dn, dc, data⟩) (r := (kx, data)) (by rw [HA3.out]; rfl) HXW.out.data k1 k2 k3; have hrow4 := (OpRow.grown (OK.alloc (HROW2.out.ownL HC2.out.wal HM3.out) _) (HT3.out.alloc _) k2); rw [← HA3.out] at hcr'; obtain ⟨A4, c4, hv4, _⟩ := (k1.rk encRec_len (Nat.le_refl _)).open_; obtain ⟨n4, hn4⟩ : ∃ n4, n4 = (ts ++ [(⟨a3, kx, dA, dn, dc, data⟩ : RecV)]).length := ⟨_, rfl⟩; rw [← hn4] at hv4; subst hv4; have HRN : Hid (Round w w4 (.slice (some ⟨b5, 0, none⟩) N c5) L count p sb mb gl Ak A4 nk ck n4 c4 maybe (a3 : Int) (k + 1)) := Lib.hid ⟨_, _, _, _, _, _, _, _, _, hcr'.next, hrow4⟩; clear k1 k2 k3 hcr' hrow4 hn4))
            go_roundw
            case rel => exact ⟨k + 1, gl, _, _, _, _, _, _, maybe, _, by go_num, rfl, rfl, rfl, rfl, rfl, by omega, HRN⟩
            case measure => simp [intOf]; omega
          · have hfb : (e3 == 0) = false := by simpa using he3
            have hmm := HC2.out.app_no HRA.out he3 HDB.out
            have hw3 := HW3.out
            rw [hmm] at hw3
            have HRN : Hid (Round w w3 (.slice (some ⟨b5, 0, none⟩) N c5) L count p sb mb gl Ak At nk ck nt ct maybe last (k + 1)) := Lib.hid ⟨_, _, _, _, _, _, _, _, _, (HC2.out.appendNo hw3 HM3.out).next, HROW2.out.ownL HC2.out.wal HM3.out⟩
            clear hmm hw3
            go_wp2_with fail
            go_roundw
            case rel => exact ⟨k + 1, gl, _, _, _, _, _, _, maybe, last, by go_num, rfl, rfl, rfl, rfl, rfl, by omega, HRN⟩
            case measure => simp [intOf]; omega)
      · by_cases hk2 : ok = 2
        · subst hk2
          have HBA1 : Hid (Below wr.heap.size wr (wr.alloc (.cells #[.int .i64 2, .int .i64 on, .int .i64 ot, .slice dA dn dc, .slice kA kn kc, .slice fA fn fc] 61))) := Lib.hid ((Below.refl _ _).alloc (Nat.le_refl _) _)
          have HC1 : Hid (CrashAt w (wr.alloc (.cells #[.int .i64 2, .int .i64 on, .int .i64 ot, .slice dA dn dc, .slice kA kn kc, .slice fA fn fc] 61)) p sb mb gl B pl s m sv bv (.slice Ak nk ck) (.slice At nt ct) ks ts rs maybe last k count) := Lib.hid (HC.out.below_ HBA1.out)
          have HROW1 : Hid (OpRow w (wr.alloc (.cells #[.int .i64 2, .int .i64 on, .int .i64 ot, .slice dA dn dc, .slice kA kn kc, .slice fA fn fc] 61)) (.slice (some ⟨b5, 0, none⟩) N c5) L) := Lib.hid (HROW.out.alloc _)
          have HX1 : Hid (OpCAt (wr.alloc (.cells #[.int .i64 2, .int .i64 on, .int .i64 ot, .slice dA dn dc, .slice kA kn kc, .slice fA fn fc] 61)) ⟨2, on, ot, dA, dn, dc, kA, kn, kc, fA, fn, fc, data, keeps, fates⟩) := Lib.hid (HXR.out.below HBA1.out)
          have HBX1 : Hid (Blk (wr.alloc (.cells #[.int .i64 2, .int .i64 on, .int .i64 ot, .slice dA dn dc, .slice kA kn kc, .slice fA fn fc] 61)) wr.heap.size 61 #[.int .i64 2, .int .i64 on, .int .i64 ot, .slice dA dn dc, .slice kA kn kc, .slice fA fn fc]) := Lib.hid (Blk.new _ _ _)
          have hst15 : Hid (s.steps < 1000000000000000) := Lib.hid (by have := HC.out.steps; omega)
          have hst0 : Hid (s.steps ≤ 1000000000000) := Lib.hid (by have := HC.out.steps; omega)

          go_wp2_with fail
          refine (Flush_any _ p sb mb gl B pl s sv bv m HC1.out.wal hst15.out).mono ?_
          obtain ⟨f, hf⟩ : ∃ f, f = (m.flush s).2.2 := ⟨_, rfl⟩
          rw [← hf]
          have HF := Lib.hid hf
          clear hf
          rintro e w2 ⟨rfl, hw2, hm2⟩
          by_cases hf0 : f = 0
          · subst hf0
            have HW2 := Lib.hid hw2
            have HM2 := Lib.hid hm2
            have HK2 : Hid (OK encRec 3 65 w2 w.heap.size (.slice Ak nk ck) ks) := Lib.hid (HC1.out.kr.mod hm2 (fun b hb => (HC1.out.apartK b hb).1))
            have HT2 : Hid (OK encRec 3 65 w2 w.heap.size (.slice At nt ct) ts) := Lib.hid (HC1.out.tr.mod hm2 (fun b hb => (HC1.out.apartT b hb).1))
            have hzz2 : w.heap.size ≤ w2.heap.size := Nat.le_trans HC1.out.below.size hm2.size
            clear hw2 hm2
            go_wp2_with (first
              | (at_builtin; refine wpList_appN etR encRec_len encRec_one rfl (.tmp 85) (.tmp 86) rfl rfl HK2.out rfl (HT2.out.rk encRec_len (Nat.le_refl _)) (by have := HC1.out.lens; omega) hzz2 ?_; intro v3 w3 k1 k2 k3; obtain ⟨s', m', hcr'⟩ := HC1.out.flushYes HW2.out HM2.out HF.out.symm hk2m k1 k2; obtain ⟨A3, c3, hv3, _⟩ := (k1.rk encRec_len (Nat.le_refl _)).open_; obtain ⟨n3, hn3⟩ : ∃ n3, n3 = (ks ++ ts).length := ⟨_, rfl⟩; rw [← hn3] at hv3; subst hv3; have HRN : Hid (Round w w3 (.slice (some ⟨b5, 0, none⟩) N c5) L count p sb mb gl A3 none n3 c3 0 0 maybe last (k + 1)) := Lib.hid ⟨_, _, _, _, _, _, _, _, _, hcr', ((HROW1.out.ownW HC1.out.wal HM2.out).grown HK2.out k2)⟩; clear k1 k2 k3 hcr' hn3))
            go_roundw
            case rel => exact ⟨k + 1, gl, _, _, _, _, _, _, maybe, last, by go_num, rfl, rfl, rfl, rfl, rfl, by omega, HRN⟩
            case measure => simp [intOf]; omega
          · have hfb : (f == 0) = false := by simpa using hf0
            obtain ⟨s', m', hcr'⟩ := HC1.out.flushNo hw2 hm2 (by rw [← HF.out]; exact hf0) hk2m
            have HRN : Hid (Round w w2 (.slice (some ⟨b5, 0, none⟩) N c5) L count p sb mb gl Ak At nk ck nt ct maybe last (k + 1)) := Lib.hid ⟨_, _, _, _, _, _, _, _, _, hcr', HROW1.out.ownW HC1.out.wal hm2⟩
            clear hw2 hm2 hcr'
            go_wp2_with fail
            go_roundw
            case rel => exact ⟨k + 1, gl, _, _, _, _, _, _, maybe, last, by go_num, rfl, rfl, rfl, rfl, rfl, by omega, HRN⟩
            case measure => simp [intOf]; omega
        · by_cases hk3 : ok = 3
          · subst hk3
            have HBA1 : Hid (Below wr.heap.size wr (wr.alloc (.cells #[.int .i64 3, .int .i64 on, .int .i64 ot, .slice dA dn dc, .slice kA kn kc, .slice fA fn fc] 61))) := Lib.hid ((Below.refl _ _).alloc (Nat.le_refl _) _)
            have HC1 : Hid (CrashAt w (wr.alloc (.cells #[.int .i64 3, .int .i64 on, .int .i64 ot, .slice dA dn dc, .slice kA kn kc, .slice fA fn fc] 61)) p sb mb gl B pl s m sv bv (.slice Ak nk ck) (.slice At nt ct) ks ts rs maybe last k count) := Lib.hid (HC.out.below_ HBA1.out)
            have HROW1 : Hid (OpRow w (wr.alloc (.cells #[.int .i64 3, .int .i64 on, .int .i64 ot, .slice dA dn dc, .slice kA kn kc, .slice fA fn fc] 61)) (.slice (some ⟨b5, 0, none⟩) N c5) L) := Lib.hid (HROW.out.alloc _)
            have HX1 : Hid (OpCAt (wr.alloc (.cells #[.int .i64 3, .int .i64 on, .int .i64 ot, .slice dA dn dc, .slice kA kn kc, .slice fA fn fc] 61)) ⟨3, on, ot, dA, dn, dc, kA, kn, kc, fA, fn, fc, data, keeps, fates⟩) := Lib.hid (HXR.out.below HBA1.out)
            have HBX1 : Hid (Blk (wr.alloc (.cells #[.int .i64 3, .int .i64 on, .int .i64 ot, .slice dA dn dc, .slice kA kn kc, .slice fA fn fc] 61)) wr.heap.size 61 #[.int .i64 3, .int .i64 on, .int .i64 ot, .slice dA dn dc, .slice kA kn kc, .slice fA fn fc]) := Lib.hid (Blk.new _ _ _)
            have hst15 : Hid (s.steps < 1000000000000000) := Lib.hid (by have := HC.out.steps; omega)
            have hst0 : Hid (s.steps ≤ 1000000000000) := Lib.hid (by have := HC.out.steps; omega)

            go_wp2_with fail
            refine (Reset_any _ p sb mb gl B pl s sv bv m HC1.out.wal hst15.out).mono ?_
            obtain ⟨f, hf⟩ : ∃ f, f = (m.reset s).2.2 := ⟨_, rfl⟩
            rw [← hf]
            have HF := Lib.hid hf
            clear hf
            rintro e w2 ⟨rfl, ⟨sv2, bv2, hw2⟩, hm2⟩
            have hrow2 := HROW1.out.ownW HC1.out.wal hm2
            by_cases hf0 : f = 0
            · subst hf0
              obtain ⟨s', m', hcr'⟩ := HC1.out.resetYes hw2 hm2 HF.out.symm hk2m
              have HRN : Hid (Round w w2 (.slice (some ⟨b5, 0, none⟩) N c5) L count p sb mb gl none none 0 0 0 0 false last (k + 1)) := Lib.hid ⟨_, _, _, _, _, _, _, _, _, hcr', hrow2⟩
              clear hw2 hm2 hcr' hrow2
              go_wp2_with fail
              go_roundw
              case rel => exact ⟨k + 1, gl, _, _, _, _, _, _, false, last, by go_num, rfl, rfl, rfl, rfl, rfl, by omega, HRN⟩
              case measure => simp [intOf]; omega
            · have hfb : (f == 0) = false := by simpa using hf0
              obtain ⟨s', m', hcase⟩ := HC1.out.resetNo hw2 hm2 (by rw [← HF.out]; exact hf0) hk2m
              rw [← HF.out] at hcase
              rcases hcase with ⟨h91, hcr'⟩ | ⟨h91, hcr'⟩
              · have hfc : (f != 91) = true := by simpa using h91
                have hfd : (f == 91) = false := by simpa using h91
                have HRN : Hid (Round w w2 (.slice (some ⟨b5, 0, none⟩) N c5) L count p sb mb gl Ak At nk ck nt ct true last (k + 1)) := Lib.hid ⟨_, _, _, _, _, _, _, _, _, hcr', hrow2⟩
                clear hw2 hm2 hcr' hrow2
                go_wp2_with fail
                go_roundw
                case rel => exact ⟨k + 1, gl, _, _, _, _, _, _, true, last, by go_num, rfl, rfl, rfl, rfl, rfl, by omega, HRN⟩
                case measure => simp [intOf]; omega
              · subst h91
                have HRN : Hid (Round w w2 (.slice (some ⟨b5, 0, none⟩) N c5) L count p sb mb gl Ak At nk ck nt ct maybe last (k + 1)) := Lib.hid ⟨_, _, _, _, _, _, _, _, _, hcr', hrow2⟩
                clear hw2 hm2 hcr' hrow2
                go_wp2_with fail
                go_roundw
                case rel => exact ⟨k + 1, gl, _, _, _, _, _, _, maybe, last, by go_num, rfl, rfl, rfl, rfl, rfl, by omega, HRN⟩
                case measure => simp [intOf]; omega
          · by_cases hk7 : ok = 7
            · subst hk7
              have HBA1 : Hid (Below wr.heap.size wr (wr.alloc (.cells #[.int .i64 7, .int .i64 on, .int .i64 ot, .slice dA dn dc, .slice kA kn kc, .slice fA fn fc] 61))) := Lib.hid ((Below.refl _ _).alloc (Nat.le_refl _) _)
              have HC1 : Hid (CrashAt w (wr.alloc (.cells #[.int .i64 7, .int .i64 on, .int .i64 ot, .slice dA dn dc, .slice kA kn kc, .slice fA fn fc] 61)) p sb mb gl B pl s m sv bv (.slice Ak nk ck) (.slice At nt ct) ks ts rs maybe last k count) := Lib.hid (HC.out.below_ HBA1.out)
              have HROW1 : Hid (OpRow w (wr.alloc (.cells #[.int .i64 7, .int .i64 on, .int .i64 ot, .slice dA dn dc, .slice kA kn kc, .slice fA fn fc] 61)) (.slice (some ⟨b5, 0, none⟩) N c5) L) := Lib.hid (HROW.out.alloc _)
              have HX1 : Hid (OpCAt (wr.alloc (.cells #[.int .i64 7, .int .i64 on, .int .i64 ot, .slice dA dn dc, .slice kA kn kc, .slice fA fn fc] 61)) ⟨7, on, ot, dA, dn, dc, kA, kn, kc, fA, fn, fc, data, keeps, fates⟩) := Lib.hid (HXR.out.below HBA1.out)
              have HBX1 : Hid (Blk (wr.alloc (.cells #[.int .i64 7, .int .i64 on, .int .i64 ot, .slice dA dn dc, .slice kA kn kc, .slice fA fn fc] 61)) wr.heap.size 61 #[.int .i64 7, .int .i64 on, .int .i64 ot, .slice dA dn dc, .slice kA kn kc, .slice fA fn fc]) := Lib.hid (Blk.new _ _ _)
              have hst15 : Hid (s.steps < 1000000000000000) := Lib.hid (by have := HC.out.steps; omega)
              have hst0 : Hid (s.steps ≤ 1000000000000) := Lib.hid (by have := HC.out.steps; omega)

              obtain ⟨t0, ht0⟩ : ∃ t0, t0 = s.steps := ⟨_, rfl⟩
              have HT0 := Lib.hid ht0
              clear ht0
              go_wp2_with fail
              go_region_law (first
                | (go_simp; go_at_call 32; refine (Steps_any _ p sb mb pl s (HC1.out.wal.dk.below (below_drewN (Below.refl _ _) 1))).mono ?_; rw [← HT0.out]; rintro e w2 ⟨rfl, hw2⟩; subst hw2)
                | (go_simp; go_at_call 31; refine (later_any _ _ fates t0 (HX1.out.fates.drewN 1) HX1.out.flen (by have := hst0.out; have := HT0.out; omega)).mono ?_; rintro e w3 ⟨v3, fs3, rfl, ho3, hi3, hb3⟩; have hbx3 := (below_drewN (Below.refl _ (wr.alloc (.cells #[.int .i64 7, .int .i64 on, .int .i64 ot, .slice dA dn dc, .slice kA kn kc, .slice fA fn fc] 61)) ) 1).trans hb3; have HC3 : Hid (CrashAt w w3 p sb mb gl B pl s m sv bv (.slice Ak nk ck) (.slice At nt ct) ks ts rs maybe last k count) := Lib.hid (HC1.out.below_ hbx3); have HROW3 : Hid (OpRow w w3 (.slice (some ⟨b5, 0, none⟩) N c5) L) := Lib.hid (OK.below HROW1.out hbx3); have hf3 : ∃ A3 n3 c3, v3 = Value.slice A3 n3 c3 := (by obtain ⟨A, c, h, _⟩ := (ho3.rk encF_len (Nat.le_refl _)).open_; exact ⟨_, _, _, h⟩); obtain ⟨A3, n3, c3, rfl⟩ := hf3; have HO3 := Lib.hid ho3; have HI3 := Lib.hid hi3; have HOFF3 : Hid (Off (fun k => k = p) (Value.slice A3 n3 c3) fs3) := Lib.hid (.inr (fun b hb e => by have h1 := (ho3.lt b hb).1; have h2 := HC1.out.wal.dk.lt.1; have h3 : (wr.alloc (.cells #[.int .i64 7, .int .i64 on, .int .i64 ot, .slice dA dn dc, .slice kA kn kc, .slice fA fn fc] 61)).heap.size ≤ b := h1; omega)); clear ho3 hi3 hb3 hbx3)
                | (go_simp; go_at_call 30; refine (Plan_any w3 p sb mb pl s _ fs3 HC3.out.wal.dk (HO3.out.rk encF_len (Nat.le_refl _)) HI3.out HOFF3.out (by have := hst0.out; omega)).mono ?_; rintro e w4 ⟨rfl, hd4, hm4⟩; have HRN : Hid (Round w w4 (.slice (some ⟨b5, 0, none⟩) N c5) L count p sb mb gl Ak At nk ck nt ct maybe last (k + 1)) := Lib.hid ⟨_, _, _, _, _, _, _, _, _, (HC3.out.plan hd4 hm4 (Nat.le_refl _)).next, HROW3.out.ownP HC3.out.wal hm4⟩; clear hd4 hm4))
              all_goals (
                go_wp2_with fail
                go_roundw
                case rel => exact ⟨k + 1, gl, _, _, _, _, _, _, maybe, last, by go_num, rfl, rfl, rfl, rfl, rfl, by omega, HRN⟩
                case measure => simp [intOf]; omega)
            · by_cases hk6 : ok = 6
              · subst hk6
                have HBA1 : Hid (Below wr.heap.size wr (wr.alloc (.cells #[.int .i64 6, .int .i64 on, .int .i64 ot, .slice dA dn dc, .slice kA kn kc, .slice fA fn fc] 61))) := Lib.hid ((Below.refl _ _).alloc (Nat.le_refl _) _)
                have HC1 : Hid (CrashAt w (wr.alloc (.cells #[.int .i64 6, .int .i64 on, .int .i64 ot, .slice dA dn dc, .slice kA kn kc, .slice fA fn fc] 61)) p sb mb gl B pl s m sv bv (.slice Ak nk ck) (.slice At nt ct) ks ts rs maybe last k count) := Lib.hid (HC.out.below_ HBA1.out)
                have HROW1 : Hid (OpRow w (wr.alloc (.cells #[.int .i64 6, .int .i64 on, .int .i64 ot, .slice dA dn dc, .slice kA kn kc, .slice fA fn fc] 61)) (.slice (some ⟨b5, 0, none⟩) N c5) L) := Lib.hid (HROW.out.alloc _)
                have HX1 : Hid (OpCAt (wr.alloc (.cells #[.int .i64 6, .int .i64 on, .int .i64 ot, .slice dA dn dc, .slice kA kn kc, .slice fA fn fc] 61)) ⟨6, on, ot, dA, dn, dc, kA, kn, kc, fA, fn, fc, data, keeps, fates⟩) := Lib.hid (HXR.out.below HBA1.out)
                have HBX1 : Hid (Blk (wr.alloc (.cells #[.int .i64 6, .int .i64 on, .int .i64 ot, .slice dA dn dc, .slice kA kn kc, .slice fA fn fc] 61)) wr.heap.size 61 #[.int .i64 6, .int .i64 on, .int .i64 ot, .slice dA dn dc, .slice kA kn kc, .slice fA fn fc]) := Lib.hid (Blk.new _ _ _)
                have hst15 : Hid (s.steps < 1000000000000000) := Lib.hid (by have := HC.out.steps; omega)
                have hst0 : Hid (s.steps ≤ 1000000000000) := Lib.hid (by have := HC.out.steps; omega)

                have HAF : Hid (After s ((s.planned []).on keeps) m ks ts maybe last k count) := Lib.hid (HC1.out.crash hk2m keeps)
                have hoffK : Hid (Off (fun j => j = sb) (Value.slice kA kn kc) keeps) := Lib.hid (HXW.out.keeps.off (fun j hj e => by have := HC.out.hz.2.1; omega))
                go_wp2_with fail
                refine (Plan_any _ p sb mb pl s (.slice none 0 0) [] HC1.out.wal.dk (RK.nil _ _) (by simp) (.inl rfl) (by have := hst0.out; omega)).mono ?_
                rintro e w2 ⟨rfl, hd2, hm2⟩
                obtain ⟨plb, hplb⟩ : ∃ plb, plb = (wr.alloc (.cells #[.int .i64 6, .int .i64 on, .int .i64 ot, .slice dA dn dc, .slice kA kn kc, .slice fA fn fc] 61)).heap.size := ⟨_, rfl⟩
                rw [← hplb] at hd2
                have HC2 : Hid (CrashAt w w2 p sb mb gl B (some plb) (s.planned []) m sv bv (.slice Ak nk ck) (.slice At nt ct) ks ts rs maybe last k count) := Lib.hid (HC1.out.plan hd2 hm2 (by rw [hplb]; exact Nat.le_refl _))
                have HROW2 : Hid (OpRow w w2 (.slice (some ⟨b5, 0, none⟩) N c5) L) := Lib.hid (HROW1.out.ownP HC1.out.wal hm2)
                have hplt : p < wr.heap.size := HC.out.wal.dk.lt.1
                have HBX2 := Lib.hid (HBX1.out.mod hm2 (fun e => by omega))
                have bx4 : w2.cell? ⟨wr.heap.size, 4, none⟩ = some (.slice kA kn kc) := HBX2.out.cell 4
                clear hd2 hm2 hplb
                go_wp2_with fail
                refine (On_any w2 p sb mb (some plb) (s.planned []) _ keeps HC2.out.wal.dk ((HXW.out.keeps.below HC2.out.below).more HC2.out.below.size) HXW.out.k64 hoffK.out).mono ?_
                rintro e w3 ⟨rfl, hd3, hm3⟩
                have HD3 := Lib.hid hd3
                have HB3 : Hid (Below w.heap.size w w3) := Lib.hid (below_by HC2.out.below hm3 (fun j hj => by have := HC2.out.hz; unfold Own at hj; omega))
                have HZ3 : Hid (w.heap.size ≤ w3.heap.size) := Lib.hid HB3.out.size
                have HK3 : Hid (OK encRec 3 65 w3 w.heap.size (.slice Ak nk ck) ks) := Lib.hid (HC2.out.kr.mod hm3 (fun b hb e => (HC2.out.apartK b hb).1 (.inl e)))
                have HT3 : Hid (OK encRec 3 65 w3 w.heap.size (.slice At nt ct) ts) := Lib.hid (HC2.out.tr.mod hm3 (fun b hb e => (HC2.out.apartT b hb).1 (.inl e)))
                have HROW3 : Hid (OpRow w w3 (.slice (some ⟨b5, 0, none⟩) N c5) L) := Lib.hid (HROW2.out.ownD HC2.out.wal hm3)
                clear hd3 hm3 bx4
                go_wp2_with fail
                refine (Open_any w3 p sb mb (some plb) ((s.planned []).on keeps) 1 count HD3.out HAF.out.off HAF.out.len ⟨HCC.out.1, by have := HCC.out.2; omega⟩ HAF.out.log).mono ?_
                rintro e w4 ⟨g4, sv4, bv4, A4, n4, c4, rfl, hn4, hw4, hr4, hb4⟩
                obtain ⟨xs, hx1, hx2, hx3⟩ := hr4
                have hxl : n4 = xs.length := by
                  obtain ⟨A, c, e, _⟩ := hx1.open_
                  injection e
                have hgot := HAF.out.got xs hx3
                have HW4 := Lib.hid hw4
                have HB4 : Hid (Below w.heap.size w w4) := Lib.hid (HB3.out.trans (hb4.mono HB3.out.size))
                have HROW4 : Hid (OpRow w w4 (.slice (some ⟨b5, 0, none⟩) N c5) L) := Lib.hid (OK.below HROW3.out hb4)
                have HKR : Hid (RecRow w4 (.slice Ak nk ck) ks) := Lib.hid ⟨(HK3.out.below hb4).rk encRec_len (Nat.le_refl _), fun x hx => ((HC.out.bodies x (List.mem_append_left _ hx)).below HB4.out).more HB4.out.size⟩
                have HTR : Hid (RecRow w4 (.slice At nt ct) ts) := Lib.hid ⟨(HT3.out.below hb4).rk encRec_len (Nat.le_refl _), fun x hx => ((HC.out.bodies x (List.mem_append_right _ hx)).below HB4.out).more HB4.out.size⟩
                have HXR4 : Hid (RecRow w4 (.slice A4 n4 c4) xs) := Lib.hid ⟨hx1, hx2⟩
                clear hn4 hw4 hx1 hx2 hx3 hb4
                rcases hgot with ⟨g1, g2, g3⟩ | ⟨g1, g2, g3⟩
                · have HG := Lib.hid (⟨g1, g2, g3⟩ : ks.length ≤ xs.length ∧ xs.length ≤ ks.length + ts.length ∧ xs.map RecV.told = ((ks ++ ts).map RecV.told).take xs.length)
                  clear g1 g2 g3 hxl
                  go_wp2_with fail
                  refine (begins_yes w4 _ _ _ xs ks ts HXR4.out HKR.out HTR.out HG.out.1 HG.out.2.1 (by have := HC.out.lens; omega) HG.out.2.2).mono ?_
                  rintro e w5 ⟨rfl, hb5⟩
                  have HC5b : Hid (Below w.heap.size w w5) := Lib.hid (HB4.out.trans (hb5.mono HB4.out.size))
                  have HW5 : Hid (WalAt w5 p sb mb (some plb) ((s.planned []).on keeps) g4 w3.heap.size sv4 bv4 (LG.opened ((s.planned []).on keeps) 1 count)) := Lib.hid (HW4.out.below hb5)
                  have HROW5 : Hid (OpRow w w5 (.slice (some ⟨b5, 0, none⟩) N c5) L) := Lib.hid (OK.below HROW4.out hb5)
                  clear hb5
                  go_wp2_with fail
                  refine (Reset_any w5 p sb mb g4 w3.heap.size (some plb) ((s.planned []).on keeps) sv4 bv4 (LG.opened ((s.planned []).on keeps) 1 count) HW5.out (by have := HAF.out.st0; omega)).mono ?_
                  rw [HAF.out.res]
                  rintro e w6 ⟨rfl, ⟨sv6, bv6, hw6⟩, hm6⟩
                  have hz6 : w.heap.size ≤ p ∧ w.heap.size ≤ sb ∧ w.heap.size ≤ mb ∧ w.heap.size ≤ w3.heap.size := ⟨HC1.out.hz.1, HC1.out.hz.2.1, HC1.out.hz.2.2.1, HZ3.out⟩
                  have hcr' := HAF.out.next HC1.out.cnt9 hw6 hz6 (below_by HC5b.out hm6 (HW5.out.ownW hz6))
                  have HRN : Hid (Round w w6 (.slice (some ⟨b5, 0, none⟩) N c5) L count p sb mb g4 none none 0 0 0 0 false last (k + 1)) := Lib.hid ⟨_, _, _, _, _, _, _, _, _, hcr', HROW5.out.ownW HW5.out hm6⟩
                  clear hw6 hm6 hcr' hz6
                  go_wp2_with fail
                  go_roundw
                  case rel => exact ⟨k + 1, g4, _, _, _, _, _, _, false, last, by go_num, rfl, rfl, rfl, rfl, rfl, by omega, HRN⟩
                  case measure => simp [intOf]; omega
                · subst g2
                  have hn0 : n4 = 0 := by rw [hxl]; exact g3
                  subst hn0
                  have HG := Lib.hid g1
                  clear g1 g3 hxl
                  go_wp2_with fail
                  refine (begins_short w4 _ _ _ xs ks ts HXR4.out HKR.out HTR.out HG.out).mono ?_
                  rintro e w5 ⟨rfl, hw5⟩
                  subst hw5
                  have hb5 : Below w5.heap.size w5 w5 := Below.refl _ _
                  have HC5b : Hid (Below w.heap.size w w5) := HB4
                  have HW5 : Hid (WalAt w5 p sb mb (some plb) ((s.planned []).on keeps) g4 w3.heap.size sv4 bv4 (LG.opened ((s.planned []).on keeps) 1 count)) := HW4
                  have HROW5 : Hid (OpRow w w5 (.slice (some ⟨b5, 0, none⟩) N c5) L) := HROW4
                  clear hb5
                  go_wp2_with fail
                  refine (Reset_any w5 p sb mb g4 w3.heap.size (some plb) ((s.planned []).on keeps) sv4 bv4 (LG.opened ((s.planned []).on keeps) 1 count) HW5.out (by have := HAF.out.st0; omega)).mono ?_
                  rw [HAF.out.res]
                  rintro e w6 ⟨rfl, ⟨sv6, bv6, hw6⟩, hm6⟩
                  have hz6 : w.heap.size ≤ p ∧ w.heap.size ≤ sb ∧ w.heap.size ≤ mb ∧ w.heap.size ≤ w3.heap.size := ⟨HC1.out.hz.1, HC1.out.hz.2.1, HC1.out.hz.2.2.1, HZ3.out⟩
                  have hcr' := HAF.out.next HC1.out.cnt9 hw6 hz6 (below_by HC5b.out hm6 (HW5.out.ownW hz6))
                  have HRN : Hid (Round w w6 (.slice (some ⟨b5, 0, none⟩) N c5) L count p sb mb g4 none none 0 0 0 0 false last (k + 1)) := Lib.hid ⟨_, _, _, _, _, _, _, _, _, hcr', HROW5.out.ownW HW5.out hm6⟩
                  clear hw6 hm6 hcr' hz6
                  go_wp2_with fail
                  go_roundw
                  case rel => exact ⟨k + 1, g4, _, _, _, _, _, _, false, last, by go_num, rfl, rfl, rfl, rfl, rfl, by omega, HRN⟩
                  case measure => simp [intOf]; omega
              · go_wp2_with fail
                obtain ⟨Ak', nk', ck', At', nt', ct', e1, e2, hr'⟩ := Round.mk (HC.out.below_ ((Below.refl _ _).alloc (Nat.le_refl _) _)).next (HROW.out.alloc _)
                injection e1 with e1 e3 e4
                injection e2 with e2 e5 e6
                subst e1 e2 e3 e4 e5 e6
                have HR' := Lib.hid hr'
                clear hr'
                go_roundw
                case rel => exact ⟨k + 1, gl, _, _, _, _, _, _, maybe, last, by go_num, rfl, rfl, rfl, rfl, rfl, by omega, HR'⟩
                case measure => simp [intOf]; omega
    · go_wp2_with fail
      go_ret
      exact ⟨rfl, HC.out.below⟩
end Go.Proofs.Ytliimkcainefpaa


/-
  The walk of WalCrash, at all arguments.
-/
namespace Go.Proofs.Ytliimkcainefpaa
open Go.RowKit Go.Maps
set_option linter.unusedVariables false

set_option maxRecDepth 100000 in
set_option maxHeartbeats 1000000 in
theorem walCrash_early (w : World) (A : Option Addr) (n c : Nat) (count : Int) (hbad : count < 1 ∨ 9 < count) :
    Calls Try.prog 5 #[.int .i64 count, .slice A n c] w fun e w' => e = .returned (.bool true) ∧ Below w.heap.size w w' := by
  by_cases h1 : count < 1
  · clear hbad
    go_enter Try.func5, Try.ntmps5
    go_wp2_with fail
    refine (alive9_any w).mono ?_
    rintro e W0 ⟨rfl, hb0⟩
    have HB0 := Lib.hid hb0
    clear hb0
    go_wp2_with fail
    go_ret
    exact ⟨rfl, HB0.out⟩
  · have h2 : 9 < count := by omega
    clear hbad
    go_enter Try.func5, Try.ntmps5
    go_wp2_with fail
    refine (alive9_any w).mono ?_
    rintro e W0 ⟨rfl, hb0⟩
    have HB0 := Lib.hid hb0
    clear hb0
    go_wp2_with fail
    go_ret
    exact ⟨rfl, HB0.out⟩
theorem walCrash_walk (count : Int) (v : Value) (os : List OpC) (w : World) (h1 : (Lit.int .i64 count).wf = true) (h : OpsAt w v os) :
    Calls Try.prog 5 #[.int .i64 count, v] w fun e w' => e = .returned (.bool true) ∧ Below w.heap.size w w' := by
  by_cases hbad : count < 1 ∨ 9 < count
  · obtain ⟨A, c, e, _⟩ := h.rk.open_
    subst e
    exact walCrash_early w A _ c count hbad
  · obtain ⟨n, rfl⟩ : ∃ n : Nat, count = (n : Int) := ⟨count.toNat, by omega⟩
    exact walCrash_run w n v os (by omega) h
end Go.Proofs.Ytliimkcainefpaa
