/-
  The walk of skeinlaw14's MvccFirst.
-/
import Derived.Test.YtgahkloldpjnkaaMV25c
namespace Go.Proofs.Ytgahkloldpjnkaa
open Go.RowKit Go.Maps
set_option linter.unusedVariables false

theorem etS : ElemT 42 30 1 24 := elemT_of (z := .slice none 0 0) Try.underlying42 (by kernel_rfl) (by kernel_rfl) (by decide) (by decide) (by decide)

theorem etSp : ElemT 43 51 3 40 := elemT_of (z := .agg #[.int .i64 0, .int .i64 0, .slice none 0 0]) Try.underlying43 (by kernel_rfl) (by kernel_rfl) (by decide) (by decide) (by decide)

theorem oneS (w : World) (y : RowS) (t : TypeId) : ∀ (j : Nat) u, (encS y)[j]? = some u → (w.alloc (.cells #[.slice y.A y.n y.c] t)).cell? ⟨w.heap.size, j, none⟩ = some u := by
  intro j u hu; rw [(Blk.new w _ _).cell j]; simpa [encS, RowS.v] using hu

theorem oneSp (w : World) (y : SpanV) (t : TypeId) : ∀ (j : Nat) u, (encSp y)[j]? = some u → (w.alloc (.cells #[.int .i64 y.start, .int .i64 y.at_, .slice y.row.A y.row.n y.row.c] t)).cell? ⟨w.heap.size, j, none⟩ = some u := by
  intro j u hu; rw [(Blk.new w _ _).cell j]; simpa [encSp, RowS.v] using hu

structure FirstAt (B g : Nat) (M : MV) (T : List RowS) (D : List SpanV) (tv dv : Value) (w : World) : Prop where
  tb : TbB B w g M
  rows : TRows B w T
  tch : OK encS 1 30 w B tv T
  don : OK encSp 3 51 w B dv D
  deeds : Deeds M T D

def DoneF (B g : Nat) (M : MV) (D : List SpanV) (bt tn tc : Nat) (dv : Value) (w w7 : World) : Prop := ∃ T, FirstAt B g M T D (.slice (some ⟨bt, 0, none⟩) tn tc) dv w7 ∧ Below w.heap.size w w7

theorem FirstAt.below {B g : Nat} {M : MV} {T : List RowS} {D : List SpanV} {tv dv : Value} {w w' : World} (h : FirstAt B g M T D tv dv w) (hb : Below w.heap.size w w') : FirstAt B g M T D tv dv w' := ⟨h.tb.below hb, h.rows.below hb, h.tch.below hb, h.don.below hb, h.deeds⟩

theorem FirstAt.turn {B g : Nat} {M M' : MV} {T : List RowS} {D : List SpanV} {tv dv : Value} {w w' : World} (h : FirstAt B g M T D tv dv w) (ht : TbB B w' g M') (t : Tame B w w') (hd : Deeds M' T D) : FirstAt B g M' T D tv dv w' := ⟨ht, h.rows.tame t, t.row (by decide) h.tch, t.row (by decide) h.don, hd⟩

theorem FirstAt.span {B g : Nat} {M : MV} {T : List RowS} {D : List SpanV} {tv dv : Value} {w : World} (h : FirstAt B g M T D tv dv w) {s : SpanV} (hs : s ∈ D) : RR w w.heap.size (.slice s.row.A s.row.n s.row.c) s.row.rs ∧ s.row.rs.length ≤ M.bulk := by
  obtain ⟨i, x, h1, h2, h3, h4, h5⟩ := h.deeds.done s hs
  obtain ⟨r, h6, h7⟩ := h.deeds.row h1
  rw [h5] at h6
  injection h6 with h6
  subst h6
  refine ⟨(h.rows.ok _ (List.mem_of_getElem? h5)).rk encR_len (Nat.le_refl _), ?_⟩
  rw [h7]
  exact mem_sum (fun y : Tx => y.refs.length) M.txns x (List.mem_of_getElem? h1)

set_option maxRecDepth 100000 in
set_option maxHeartbeats 4000000 in
theorem mvccFirst_walk (last : Int) (v : Value) (os : List OpM) (w : World) (hl : I64 last) (hs : ScrAt w v os) :
    Calls Try.prog 4 #[.int .i64 last, v] w fun e w' => e = .returned (.bool true) ∧ Below w.heap.size w w' := by
  obtain ⟨A, c, rfl, hc1, hc2, hc3, HC⟩ := hs.rk.open_
  have hlen := hs.len
  have HS := Lib.hid hs
  have HL := Lib.hid hl
  clear hs hl
  go_enter Try.func4, Try.ntmps4
  go_wp2_with fail
  refine (bNew w.heap.size w (Nat.le_refl _) last HL.out).mono ?_
  rintro e w1 ⟨rfl, h1, t1⟩
  obtain ⟨g, hg⟩ : ∃ g, g = w.heap.size + 2 := ⟨_, rfl⟩
  rw [← hg] at h1 ⊢
  have H1 := Lib.hid h1
  have T1 := Lib.hid t1
  clear h1 t1 hg
  go_wp2_with fail
  refine (alive_any w1).mono ?_
  rintro e w2 ⟨rfl, hb2⟩
  have H2 := Lib.hid (H1.out.below hb2)
  have T2 := Lib.hid (T1.out.below.trans (hb2.mono T1.out.below.size))
  clear hb2
  go_wp2_with fail
  have h3 : FirstAt w.heap.size g (MV.new last) [] [] (.slice (some ⟨w2.heap.size, 0, none⟩) 0 0) (.slice (some ⟨w2.heap.size + 1, 0, none⟩) 0 0) ((w2.alloc (.cells #[] 30)).alloc (.cells #[] 51)) := by
    have e0 : (w2.alloc (.cells #[] 30)).heap.size = w2.heap.size + 1 := by simp
    have z2 := T2.out.size
    refine ⟨(H2.out.alloc _).alloc _, TRows.nil _ _, OK.alloc ⟨by simp, ?_⟩ _, ⟨by simp, ?_⟩, deeds_new last⟩
    · exact World.ownsRow_made w2 #[] 0 z2 (by simp) (by simp)
    · have := World.ownsRow_made (e := 51) (size := 3) (w2.alloc (.cells #[] 30)) #[] 0 (base := w.heap.size) (by omega) (by simp) (by simp)
      rw [e0] at this
      exact this
  have H3 := Lib.hid h3
  have T3 : Hid (Below w.heap.size w ((w2.alloc (.cells #[] 30)).alloc (.cells #[] 51))) := Lib.hid (((T2.out.alloc T2.out.size _).alloc (by have := T2.out.size; simp; omega)) _)
  clear h3
  refine (bHorizon w.heap.size _ g (MV.new last) H3.out.tb).mono ?_
  rintro e w4 ⟨rfl, hb4⟩
  have H4 := Lib.hid (H3.out.below hb4)
  have T4 := Lib.hid (T3.out.trans (hb4.mono T3.out.size))
  clear hb4
  go_wp2_with fail
  go_loopw [6, 7, 8, 40] (fun tv dv hz i wr => ∃ (k : Nat) (T : List RowS) (D : List SpanV) (tA dA : Option Addr) (tn tc dn dc : Nat), k ≤ os.length ∧ i = .int .i64 k ∧ tv = .slice tA tn tc ∧ dv = .slice dA dn dc ∧ hz = .int .i64 ((MV.new last).runs (os.take k)).hor ∧ D.length ≤ k ∧ Hid (FirstAt w.heap.size g ((MV.new last).runs (os.take k)) T D (.slice tA tn tc) (.slice dA dn dc) wr) ∧ Hid (Below w.heap.size w wr)) (fun _ _ _ i _ => os.length - (intOf i).toNat)
  case atStart => exact ⟨0, [], [], _, _, _, _, _, _, Nat.zero_le _, rfl, rfl, rfl, rfl, Nat.le_refl _, H4, T4⟩
  case round =>
    obtain ⟨k, T, D, tA, dA, tn, tc, dn, dc, hk, rfl, rfl, rfl, rfl, hdk, HF, HT⟩ := hrel
    by_cases hkl : k < os.length
    · obtain ⟨b1, o1, rfl, hb, hx⟩ := HC.out k hkl
      obtain ⟨hx1, hx2, hx3⟩ := cellOM hx
      have y1 : wr.cell? ⟨b1, o1 + k * 3, none⟩ = _ := (HT.out.cell (p := ⟨b1, o1 + k * 3, none⟩) hb).trans hx1
      have y2 : wr.cell? ⟨b1, o1 + k * 3 + 1, none⟩ = _ := (HT.out.cell (p := ⟨b1, o1 + k * 3 + 1, none⟩) hb).trans hx2
      have y3 : wr.cell? ⟨b1, o1 + k * 3 + 2, none⟩ = _ := (HT.out.cell (p := ⟨b1, o1 + k * 3 + 2, none⟩) hb).trans hx3
      have HOP := Lib.hid (HS.out.at_ os[k] (List.getElem_mem hkl))
      have HTK := Lib.hid (List.take_succ_eq_append_getElem hkl)
      have HSM := Lib.hid (runs_small (last := last) HS.out k)
      have HSM2 := Lib.hid (runs_small (last := last) HS.out (k + 1))
      have HRL := Lib.hid (Nat.le_trans (mem_sum (fun x : OpM => x.refs.length) os os[k] (List.getElem_mem hkl)) HS.out.sum)
      clear hx hx1 hx2 hx3
      obtain ⟨x, hx⟩ : ∃ x, x = os[k] := ⟨_, rfl⟩
      rw [← hx] at y1 y2 y3 HOP HTK HRL
      clear hx
      obtain ⟨M, hM⟩ : ∃ M, M = (MV.new last).runs (os.take k) := ⟨_, rfl⟩
      rw [← hM] at HF HSM
      rw [← hM]
      have HM := Lib.hid hM
      clear hM
      obtain ⟨kd, n, rA, rn, rc, refs⟩ := x
      dsimp only at y1 y2 y3
      have hrl : refs.length ≤ 400000 := HRL.out
      have HN64 : Hid (I64 n) := Lib.hid HOP.out.n64
      obtain ⟨W, hW⟩ : ∃ W, W = wr.alloc (.cells #[.int .i64 kd, .int .i64 n, .slice rA rn rc] 32) := ⟨_, rfl⟩
      have hbW : Below wr.heap.size wr W := by rw [hW]; exact (Below.refl _ _).alloc (Nat.le_refl _) _
      have hbx : Blk W wr.heap.size 32 #[.int .i64 kd, .int .i64 n, .slice rA rn rc] := by rw [hW]; exact Blk.new _ _ _
      have HBX := Lib.hid hbx
      have HFW := Lib.hid (HF.out.below hbW)
      have HTW := Lib.hid (HT.out.trans (hbW.mono HT.out.size))
      have HW := Lib.hid hW
      have z0 : W.cell? ⟨wr.heap.size, 0, none⟩ = some (.int .i64 kd) := hbx.cell 0
      have z1 : W.cell? ⟨wr.heap.size, 1, none⟩ = some (.int .i64 n) := hbx.cell 1
      have z2 : W.cell? ⟨wr.heap.size, 2, none⟩ = some (.slice rA rn rc) := hbx.cell 2
      clear hbx hbW hW HF HT
      go_upto_block 2 with (go_at_call 13; rw [← HW.out]; refine (bLast w.heap.size W g M HFW.out.tb).mono ?_; rintro e w' ⟨rfl, rfl⟩)
      go_cut [6, 7, 40] from 40 to 200 (fun tv dv i wx => ∃ (T' : List RowS) (D' : List SpanV) (tA' dA' : Option Addr) (tn' tc' dn' dc' : Nat), tv = .slice tA' tn' tc' ∧ dv = .slice dA' dn' dc' ∧ i = .int .i64 (k : Int) ∧ D'.length ≤ k + 1 ∧ Hid (FirstAt w.heap.size g (M.run ⟨kd, n, rA, rn, rc, refs⟩) T' D' (.slice tA' tn' tc') (.slice dA' dn' dc') wx) ∧ Hid (Below w.heap.size w wx))
      case first =>
        have hwW := HTW.out.size
        by_cases h1 : kd = 1
        · subst h1
          have hfew := HFW.out.tb.ok.few
          have htn : tn = M.txns.length := by
            obtain ⟨_, _, e, _⟩ := (HFW.out.tch.rk encS_len (Nat.le_refl _)).open_
            injection e with e1 e2 e3
            rw [e2, HFW.out.deeds.len]
          have hsm := HSM.out.1
          have HTN : Hid (tn = M.txns.length) := Lib.hid htn
          have htn3 : tn ≤ 300000 := by omega
          by_cases hf : M.nums.length < 8
          · have FB := Lib.hid (begin_free hf)
            have hc := bBegin w.heap.size w' g M HFW.out.tb hwW (by omega)
            rw [FB.out.2.1, FB.out.2.2, FB.out.1, ← HTN.out] at hc
            clear htn hfew hf
            go_wp2_with fail
            refine hc.mono ?_
            rintro e wd ⟨rfl, h5, t5⟩
            have TB5 := Lib.hid h5
            have RW5 := Lib.hid (HFW.out.rows.tame t5)
            have TC5 := Lib.hid (t5.row (by decide) HFW.out.tch)
            have DN5 := Lib.hid (t5.row (by decide) HFW.out.don)
            have B5 := Lib.hid (HTW.out.trans t5.below)
            have hwd := B5.out.size
            have HLN : Hid (T.length + 1 ≤ 1000000) := Lib.hid (by rw [HFW.out.deeds.len, ← HTN.out]; omega)
            clear h5 t5 hc
            go_wp2_with (first
              | (at_builtin; refine wpList_appE etS encS_len encS_one (y := ⟨none, 0, 0, []⟩) rfl (.tmp 80) (.tmp 81) rfl rfl (TC5.out.alloc _) wd.heap.size rfl (oneS wd ⟨none, 0, 0, []⟩ _) HLN.out (base1 hwd _) ?_; intro v6 w6 k1 k2 k3; obtain ⟨A6, c6, hv6, -, -, -, -⟩ := (k1.rk encS_len (Nat.le_refl _)).open_; subst hv6; have K1 := Lib.hid k1; have K2 := Lib.hid k2; clear k1 k2 k3))
            go_meet
            case rel =>
              have hk := K1.out
              rw [show (T ++ [(⟨none, 0, 0, []⟩ : RowS)]).length = T.length + 1 by simp] at hk
              refine ⟨T ++ [⟨none, 0, 0, []⟩], D, _, _, _, _, _, _, rfl, rfl, rfl, by omega, Lib.hid ⟨?_, ?_, hk, ?_, ?_⟩, Lib.hid (below_beside B5.out TC5.out K2.out)⟩
              · rw [run_1, FB.out.1]; exact TB5.out.beside TC5.out (by decide) K2.out
              · exact TRows.push ⟨fun r hr => (RW5.out.ok r hr).beside TC5.out (by decide) K2.out, RW5.out.apart⟩
              · exact DN5.out.beside TC5.out (by decide) K2.out
              · rw [run_1, FB.out.1]; exact deeds_add HFW.out.deeds rfl
          · have hn8 : M.nums.length = 8 := by omega
            have HN8 := Lib.hid hn8
            have FB : Hid (M.begin = M ∧ M.beginN = 0 ∧ M.beginE = 142) := Lib.hid ⟨by unfold MV.begin; rw [if_neg hf], by unfold MV.beginN; rw [if_neg hf], by unfold MV.beginE; rw [if_neg hf]⟩
            have hc := bBegin w.heap.size w' g M HFW.out.tb hwW (by omega)
            rw [FB.out.2.1, FB.out.2.2, FB.out.1] at hc
            clear htn hfew hf hn8
            go_wp2_with fail
            refine hc.mono ?_
            rintro e wd ⟨rfl, h5, t5⟩
            have F5 := Lib.hid (HFW.out.turn h5 t5 HFW.out.deeds)
            have B5 := Lib.hid (HTW.out.trans t5.below)
            clear h5 t5 hc
            go_wp2_with fail
            refine (bLive w.heap.size wd g M F5.out.tb).mono ?_
            rintro e we ⟨v8, rfl, h8, hb8⟩
            obtain ⟨A8, c8, hv8, -, -, -, -⟩ := (h8.rk encI_len (Nat.le_refl _)).open_
            rw [HN8.out] at hv8
            subst hv8
            have F6 := Lib.hid (F5.out.below hb8)
            have B6 := Lib.hid (B5.out.trans (hb8.mono B5.out.size))
            clear h8 hb8
            go_wp2_with fail
            go_meet
            case rel => exact ⟨T, D, _, _, _, _, _, _, rfl, rfl, rfl, by omega, Lib.hid (by rw [run_1, FB.out.1]; exact F6.out), B6⟩
        · have g1 : (kd == 1) = false := by simpa using h1
          by_cases h2 : kd = 2
          · subst h2
            have hrn : rn = refs.length := by
              obtain ⟨_, _, e, _⟩ := HOP.out.refs.open_
              injection e
            have HRR := Lib.hid ((HOP.out.refs.below HTW.out).more HTW.out.size)
            have hrf : Hid (∀ r ∈ refs, I64 r.snd) := Lib.hid HOP.out.r64
            have HBK : Hid (M.bulk ≤ 400000) := Lib.hid (by have := HSM.out.2; omega)
            have hcall := bTouch w.heap.size w' g M HFW.out.tb hwW n HN64.out (.slice rA rn rc) refs HRR.out hrf.out (by have := HBK.out; omega)
            clear hrn
            go_wp2_with fail
            refine hcall.mono ?_
            rintro e wd ⟨rfl, h5, t5⟩
            have TB5 := Lib.hid h5
            have RW5 := Lib.hid (HFW.out.rows.tame t5)
            have TC5 := Lib.hid (t5.row (by decide) HFW.out.tch)
            have DN5 := Lib.hid (t5.row (by decide) HFW.out.don)
            have B5 := Lib.hid (HTW.out.trans t5.below)
            have K5 := Lib.hid (t5.blk (by decide) HBX.out)
            have hwd := B5.out.size
            clear h5 t5 hcall
            cases hl : M.live? n with
            | none =>
              have HC : Hid (M.touch n refs = M) := Lib.hid (by unfold MV.touch; rw [hl])
              rw [touchE_none hl]
              clear hl
              go_wp2_with fail
              go_meet
              case rel => exact ⟨T, D, _, _, _, _, _, _, rfl, rfl, rfl, by omega, Lib.hid ⟨TB5.out, RW5.out, TC5.out, DN5.out, by rw [run_2, HC.out]; exact HFW.out.deeds⟩, B5⟩
            | some x =>
              rw [touchE_live hl]
              obtain ⟨j, rfl⟩ : ∃ j : Nat, n = (j : Int) + 1 := ⟨(n - 1).toNat, by have := (live_lt hl).1; omega⟩
              have hj0 : ((j : Int) + 1 - 1).toNat = j := by omega
              have hjt : M.txns[j]? = some x := by have := (live_iff.1 hl).2.1; rwa [hj0] at this
              obtain ⟨r, hr, hrr⟩ := HFW.out.deeds.row hjt
              have hjT : j < T.length := (List.getElem?_eq_some_iff.1 hr).1
              have HDD : Hid (∀ r' : RowS, r'.rs = x.refs ++ refs → Deeds (M.touch ((j : Int) + 1) refs) (T.set j r') D) := Lib.hid (fun r' h' => by have := deeds_touch HFW.out.deeds hl (rs := refs) (r := r') h'; rwa [hj0] at this)
              have hxr := refs_bulk hl
              obtain ⟨W4, hW4⟩ : ∃ W4, W4 = wd.drew := ⟨_, rfl⟩
              have TB4 : Hid (TbB w.heap.size W4 g (M.touch ((j : Int) + 1) refs)) := Lib.hid (by rw [hW4]; exact TB5.out.drew)
              have RW4 : Hid (TRows w.heap.size W4 T) := Lib.hid (by rw [hW4]; exact RW5.out.still fun _ _ _ _ => rfl)
              have TC4 : Hid (OK encS 1 30 W4 w.heap.size (.slice tA tn tc) T) := Lib.hid (by rw [hW4]; exact TC5.out.drew)
              have DN4 : Hid (OK encSp 3 51 W4 w.heap.size (.slice dA dn dc) D) := Lib.hid (by rw [hW4]; exact DN5.out.drew)
              have B4 : Hid (Below w.heap.size w W4) := Lib.hid (by rw [hW4]; exact below_drewN B5.out 1)
              have K4 : Hid (Blk W4 wr.heap.size 32 #[.int .i64 2, .int .i64 ((j : Int) + 1), .slice rA rn rc]) := Lib.hid (by rw [hW4]; exact K5.out.drew)
              have hwd4 : w.heap.size ≤ W4.heap.size := B4.out.size
              obtain ⟨bt, et, hts⟩ := TC4.out.setS hjT r
              subst et
              have hfz : W4.frozen? ⟨bt, j, none⟩ = false := TC4.out.unfrozen j
              obtain ⟨tA', tc', et, ht1, ht2, ht3, HCT⟩ := (TC4.out.rk encS_len (Nat.le_refl _)).open_
              injection et with et1 et2 et3
              obtain ⟨bt', ot, e4, hbt, hxt⟩ := HCT.out j hjT
              rw [e4] at et1
              injection et1 with et1
              injection et1 with et4 et5
              subst et4
              subst et5
              have ht0 : W4.cell? ⟨bt, j, none⟩ = some (.slice r.A r.n r.c) := by
                have := hxt 0 _ rfl
                rw [(List.getElem?_eq_some_iff.1 hr).2] at this
                simpa [RowS.v] using this
              have hjn : j < tn := by omega
              have hjn2 : (j : Int) < (tn : Int) := by omega
              have hj2 : j ≤ 300000 := by have := HSM.out.1; have := HFW.out.deeds.len; omega
              have hw1 : IntKind.i64.wrap (j : Int) = (j : Int) := by rw [IntKind.wrap_i64]; omega
              have zd1 : W4.cell? ⟨wr.heap.size, 1, none⟩ = some (.int .i64 ((j : Int) + 1)) := K4.out.cell 1
              have zd2 : W4.cell? ⟨wr.heap.size, 2, none⟩ = some (.slice rA rn rc) := K4.out.cell 2
              have HR := Lib.hid hr
              have HJT := Lib.hid hjT
              have HRX : Hid (r.rs = x.refs) := Lib.hid hrr
              have HRR5 := Lib.hid ((HOP.out.refs.below B4.out).more B4.out.size)
              have HRK := Lib.hid (RW4.out.ok r (List.mem_of_getElem? hr))
              have HLN : Hid (r.rs.length + refs.length ≤ 10000000) := Lib.hid (by have := HBK.out; rw [hrr]; omega)
              obtain ⟨qA, qn, qc, qrs⟩ := r
              dsimp only at ht0
              have HCT4 : Hid (∀ w6, W4.grownBy w6 (Value.slice qA qn qc).ownBlock → w6.cell? ⟨bt, j, none⟩ = some (.slice qA qn qc)) := Lib.hid (by
                intro w6 k2
                have hne : (Value.slice qA qn qc).ownBlock ≠ some bt := by
                  rcases rows_ne HRK.out TC4.out (by decide) with h | h
                  · intro e; rw [RowS.v] at h; rw [h] at e; cases e
                  · exact h
                have := k2.block bt (TC4.out.lt bt rfl).2 (fun e => hne e.symm)
                unfold World.cell? at ht0 ⊢
                rw [this]; exact ht0)
              have HARM : Hid (∀ v6 w6, OK encR 2 62 w6 w.heap.size v6 (qrs ++ refs) → W4.grownBy w6 (Value.slice qA qn qc).ownBlock → (v6.ownBlock = (Value.slice qA qn qc).ownBlock ∨ v6.ownBlock = some W4.heap.size) → ∃ A6 n6 c6, v6 = .slice A6 n6 c6 ∧ w6.cell? ⟨wr.heap.size, 1, none⟩ = some (.int .i64 ((j : Int) + 1)) ∧ w6.frozen? ⟨bt, j, none⟩ = false ∧ w6.cell? ⟨bt, j, none⟩ = some (.slice qA qn qc) ∧
                  Hid (FirstAt w.heap.size g (M.touch ((j : Int) + 1) refs) (T.set j ⟨A6, n6, c6, qrs ++ refs⟩) D (.slice (some ⟨bt, 0, none⟩) tn tc) (.slice dA dn dc) (w6.setCell ⟨bt, j, none⟩ (.slice A6 n6 c6)) ∧ Below w.heap.size w (w6.setCell ⟨bt, j, none⟩ (.slice A6 n6 c6)))) := Lib.hid (by
                intro v6 w6 k1 k2 k3
                obtain ⟨A6, c6, rfl, -, -, -, -⟩ := (k1.rk encR_len (Nat.le_refl _)).open_
                obtain ⟨g1, g2, g3, g4⟩ := grown_all (r' := ⟨A6, (qrs ++ refs).length, c6, qrs ++ refs⟩) TB4.out RW4.out TC4.out DN4.out HR.out k1 k2 k3
                obtain ⟨f1, f2, f3, f4⟩ := put_back g1 g2 g3 g4 HJT.out
                have kb : Blk w6 wr.heap.size 32 _ := Blk.growRow K4.out HRK.out (by decide) k2
                have hcx : w6.cell? ⟨bt, j, none⟩ = some (.slice qA qn qc) := by
                  have hne : (Value.slice qA qn qc).ownBlock ≠ some bt := by
                    rcases rows_ne HRK.out TC4.out (by decide) with h | h
                    · intro e; rw [RowS.v] at h; rw [h] at e; cases e
                    · exact h
                  have := k2.block bt (TC4.out.lt bt rfl).2 (fun e => hne e.symm)
                  unfold World.cell? at ht0 ⊢
                  rw [this]; exact ht0
                refine ⟨A6, _, c6, rfl, kb.cell 1, g3.unfrozen j, hcx, Lib.hid ⟨⟨f1, f2, f3, f4, HDD.out _ (by dsimp only at HRX ⊢; rw [HRX.out])⟩, ?_⟩⟩
                refine (Below.grown B4.out k2 hwd4 (fun k hk => (HRK.out.lt k hk).1)).setCell (p := ⟨bt, j, none⟩) ?_ _
                exact (TC4.out.lt bt rfl).1)
              clear hl hr hrr hjt hj0 hts ht1 ht2 ht3 hbt hxt e4 et2 et3 hxr hjT hrf
              go_upto_region 20 with fail
              rename_i K hK
              have HDONE : Hid (∀ v6 w6, OK encR 2 62 w6 w.heap.size v6 (qrs ++ refs) → W4.grownBy w6 (Value.slice qA qn qc).ownBlock → (v6.ownBlock = (Value.slice qA qn qc).ownBlock ∨ v6.ownBlock = some W4.heap.size) → ∃ A6 n6 c6, v6 = .slice A6 n6 c6 ∧ w6.frozen? ⟨bt, j, none⟩ = false ∧ w6.cell? ⟨bt, j, none⟩ = some (.slice qA qn qc) ∧ DoneF w.heap.size g (M.touch ((j : Int) + 1) refs) D bt tn tc (.slice dA dn dc) w (w6.setCell ⟨bt, j, none⟩ (.slice A6 n6 c6))) := Lib.hid (by
                intro v6 w6 k1 k2 k3
                obtain ⟨A6, n6, c6, e1, z1, e2, e3, e4⟩ := HARM.out v6 w6 k1 k2 k3
                exact ⟨A6, n6, c6, e1, e2, e3, _, e4.out⟩)
              clear HARM
              refine wp_region_slots (SR w.heap.size wr.heap.size bt j tn tc (.slice qA qn qc) (.slice rA rn rc) (qrs ++ refs) (Value.slice qA qn qc).ownBlock W4.heap.size) (IW W4 (Value.slice qA qn qc).ownBlock (DoneF w.heap.size g (M.touch ((j : Int) + 1) refs) D bt tn tc (.slice dA dn dc) w)) (by kernel_rfl) (by kernel_rfl) (by kernel_rfl) ⟨fun _ => hW4.symm, fun _ => by rw [← hW4]; exact World.grownBy.refl _ _, fun e => by simp at e⟩ ?_ ?_
              · intro L a w7 q o' h ho h0 hd
                revert L a w7
                revert q o'
                refine each_array ?_
                refine ⟨?_, ?_, ?_, ?_, ?_, ?_, ?_, ?_, ?_, ?_, ?_, ?_, ?_, ?_, ?_, trivial⟩ <;> intro L a w7 h h0 hd
                · exact h.val rfl rfl (ro_move w7 (h.still 6 (by kernel_rfl))) (h.world.keep (by decide) (by decide) h0) rfl
                · exact h.val rfl rfl (ro_opN w7 (h.still 10 (by kernel_rfl))) (h.world.keep (by decide) (by decide) h0) rfl
                · exact h.val rfl rfl (ro_load3 w7 (h.ran 1 _ 93 rfl rfl (hd ⟨1, .data⟩ (by simp) rfl)) ((K4.out.growRow HRK.out (by decide) (h.world.b (h.world.notst (by decide) h0))).cell 1)) (h.world.keep (by decide) (by decide) h0) rfl
                · exact h.val rfl rfl (ro_sub1 w7 hj2 (h.ran 2 _ 94 rfl rfl (hd ⟨2, .data⟩ (by simp) rfl))) (h.world.keep (by decide) (by decide) h0) rfl
                · exact h.val rfl rfl (ro_move w7 (h.still 6 (by kernel_rfl))) (h.world.keep (by decide) (by decide) h0) rfl
                · exact h.val rfl rfl (ro_opN w7 (h.still 10 (by kernel_rfl))) (h.world.keep (by decide) (by decide) h0) rfl
                · exact h.val rfl rfl (ro_load3 w7 (h.ran 5 _ 97 rfl rfl (hd ⟨5, .data⟩ (by simp) rfl)) ((K4.out.growRow HRK.out (by decide) (h.world.b (h.world.notst (by decide) h0))).cell 1)) (h.world.keep (by decide) (by decide) h0) rfl
                · exact h.val rfl rfl (ro_sub1 w7 hj2 (h.ran 6 _ 98 rfl rfl (hd ⟨6, .data⟩ (by simp) rfl))) (h.world.keep (by decide) (by decide) h0) rfl
                · exact h.val rfl rfl (ro_idxS w7 hjn hjn2 (h.ran 4 _ 96 rfl rfl (hd ⟨4, .data⟩ (by simp) rfl)) (h.ran 7 _ 99 rfl rfl (hd ⟨7, .data⟩ (by simp) rfl))) (h.world.keep (by decide) (by decide) h0) rfl
                · have hc9 := HCT4.out w7 (h.world.b (h.world.notst (by decide) h0))
                  exact h.val rfl rfl (ro_loadR w7 (h.ran 8 _ 100 rfl rfl (hd ⟨8, .data⟩ (by simp) rfl)) hc9) (h.world.keep (by decide) (by decide) h0) rfl
                · exact h.val rfl rfl (ro_opR w7 (h.still 10 (by kernel_rfl))) (h.world.keep (by decide) (by decide) h0) rfl
                · exact h.val rfl rfl (ro_loadR w7 (h.ran 10 _ 102 rfl rfl (hd ⟨10, .data⟩ (by simp) rfl)) ((K4.out.growRow HRK.out (by decide) (h.world.b (h.world.notst (by decide) h0))).cell 2)) (h.world.keep (by decide) (by decide) h0) rfl
                · have hw7 := h.world.a h0
                  obtain ⟨v6, w6, hrun, k1, k2, k3⟩ := ro_appR (w := w7) (d := some 104) (ty := 30) (pos := "law.go:121") (af := #[{ on := 9, ground := Ground.data }, { on := 11, ground := Ground.data }]) (g := none) etR (h.ran 9 _ 101 rfl rfl (hd ⟨9, .data⟩ (by simp) rfl)) (h.ran 11 _ 103 rfl rfl (hd ⟨11, .data⟩ (by simp) rfl)) (by rw [hw7]; exact HRK.out) (by rw [hw7]; exact HRR5.out) HLN.out (by rw [hw7]; exact hwd4)
                  rw [hw7] at k2 k3
                  exact h.mem rfl rfl hrun (fun k u hk hs => sr_same k u _ _ (.inl fun e => by rw [e, h0] at hk; cases hk) hs) (h.world.app h.sized h0 k2) ⟨k1, k3⟩
                · exact h.val rfl rfl (ro_idxS w7 hjn hjn2 (h.ran 0 _ 92 rfl rfl (hd ⟨0, .data⟩ (by simp) rfl)) (h.ran 3 _ 95 rfl rfl (hd ⟨3, .data⟩ (by simp) rfl))) (h.world.keep (by decide) (by decide) h0) rfl
                · obtain ⟨k1, k3⟩ := h.ran 12 _ 104 rfl rfl (hd ⟨12, .data⟩ (by simp) rfl)
                  have k2 := h.world.b h0
                  obtain ⟨A6, n6, c6, e1, e2, e3, e4⟩ := HDONE.out _ w7 k1 k2 k3
                  refine h.skip rfl rfl (ro_storeR w7 (h.ran 13 _ 105 rfl rfl (hd ⟨13, .data⟩ (by simp) rfl)) e1 e3 e2) (fun k u hk hs => sr_same k u _ _ (.inr fun hok => ?_) hs) (IW.st h.sized (fun q hq => ?_) e4) trivial
                  · exact hok.setOther (TC4.out.kept k2 (rows_ne TC4.out HRK.out (by decide))) (by decide) j _
                  · match q, hq with
                    | 0, _ => exact hd ⟨0, .phase⟩ (by simp) rfl
                    | 1, _ => exact hd ⟨1, .phase⟩ (by simp) rfl
                    | 2, _ => exact hd ⟨2, .phase⟩ (by simp) rfl
                    | 3, _ => exact hd ⟨3, .phase⟩ (by simp) rfl
                    | 4, _ => exact hd ⟨4, .phase⟩ (by simp) rfl
                    | 5, _ => exact hd ⟨5, .phase⟩ (by simp) rfl
                    | 6, _ => exact hd ⟨6, .phase⟩ (by simp) rfl
                    | 7, _ => exact hd ⟨7, .phase⟩ (by simp) rfl
                    | 8, _ => exact hd ⟨8, .phase⟩ (by simp) rfl
                    | 9, _ => exact hd ⟨9, .phase⟩ (by simp) rfl
                    | 10, _ => exact hd ⟨10, .phase⟩ (by simp) rfl
                    | 11, _ => exact hd ⟨11, .phase⟩ (by simp) rfl
                    | 12, _ => exact hd ⟨12, .phase⟩ (by simp) rfl
                    | 13, _ => exact hd ⟨13, .data⟩ (by simp) rfl
              · intro L a w7 hL hdf hsz' hw hother hall
                obtain ⟨T6, HF6⟩ : DoneF w.heap.size g (M.touch ((j : Int) + 1) refs) D bt tn tc (.slice dA dn dc) w w7 := (hw.c (hL 14 (by decide))).1
                obtain ⟨tm, df⟩ := a
                obtain rfl : df = [] := hdf
                have htm := tmps_eq [92, 93, 94, 95, 96, 97, 98, 99, 100, 101, 102, 103, 104, 105] (by kernel_rfl) hsz' hother
                dsimp only at htm
                simp only [List.foldl] at htm
                generalize tm.getD 92 undef = y92 at htm
                generalize tm.getD 93 undef = y93 at htm
                generalize tm.getD 94 undef = y94 at htm
                generalize tm.getD 95 undef = y95 at htm
                generalize tm.getD 96 undef = y96 at htm
                generalize tm.getD 97 undef = y97 at htm
                generalize tm.getD 98 undef = y98 at htm
                generalize tm.getD 99 undef = y99 at htm
                generalize tm.getD 100 undef = y100 at htm
                generalize tm.getD 101 undef = y101 at htm
                generalize tm.getD 102 undef = y102 at htm
                generalize tm.getD 103 undef = y103 at htm
                generalize tm.getD 104 undef = y104 at htm
                generalize tm.getD 105 undef = y105 at htm
                clear hother hall hsz' hw hL
                rw [htm]
                clear htm
                simp only [List.setIfInBounds_toArray, List.set_cons_succ, List.set_cons_zero]
                have HF7 := Lib.hid HF6
                clear HF6
                go_wp2_with fail
                go_meet
                case rel => exact ⟨_, D, _, _, _, _, _, _, rfl, rfl, rfl, by omega, Lib.hid HF7.out.1, Lib.hid HF7.out.2⟩
          · have g2 : (kd == 2) = false := by simpa using h2
            by_cases h3 : kd = 3
            · subst h3
              go_wp2_with fail
              refine (bStart w.heap.size _ g M HFW.out.tb n HN64.out).mono ?_
              rintro e wb ⟨rfl, hbb⟩
              have F1 := Lib.hid (HFW.out.below hbb)
              have B1 := Lib.hid (HTW.out.trans (hbb.mono HTW.out.size))
              have K1 := Lib.hid (HBX.out.below hbb HBX.out.lt)
              clear hbb
              have zb : wb.cell? ⟨wr.heap.size, 1, none⟩ = some (.int .i64 n) := K1.out.cell 1
              go_wp2_with fail
              refine (bCommit w.heap.size wb g M F1.out.tb B1.out.size n HN64.out (by have := HSM.out.2; omega)).mono ?_
              rintro e wd ⟨rfl, h5, t5⟩
              have TB5 := Lib.hid h5
              have RW5 := Lib.hid (F1.out.rows.tame t5)
              have TC5 := Lib.hid (t5.row (by decide) F1.out.tch)
              have DN5 := Lib.hid (t5.row (by decide) F1.out.don)
              have B5 := Lib.hid (B1.out.trans t5.below)
              have K5 := Lib.hid (t5.blk (by decide) K1.out)
              have hwd := B5.out.size
              have zd : wd.cell? ⟨wr.heap.size, 1, none⟩ = some (.int .i64 n) := K5.out.cell 1
              clear h5 t5
              have HRUN : Hid (M.run ⟨3, n, rA, rn, rc, refs⟩ = M.commit n) := Lib.hid rfl
              obtain ⟨te, hte⟩ : ∃ te, te = M.tryE n := ⟨_, rfl⟩
              obtain ⟨ct, hct⟩ : ∃ ct, ct = M.commitT n := ⟨_, rfl⟩
              obtain ⟨st, hst⟩ : ∃ st, st = M.startOf n := ⟨_, rfl⟩
              rw [← hte, ← hct, ← hst]
              by_cases h00 : te = 0
              · subst h00
                obtain ⟨x, hl⟩ : ∃ x, M.live? n = some x := by
                  cases hl : M.live? n with
                  | none => rw [tryE_none hl] at hte; cases hte
                  | some x => exact ⟨x, rfl⟩
                have HST : Hid (st = x.start) := Lib.hid (by rw [hst]; unfold MV.startOf; rw [hl])
                have hl0b : 0 ≤ M.last ∧ M.last ≤ 1099511627776 := HFW.out.tb.ok.last
                have HJ : Hid (∃ j : Nat, n = (j : Int) + 1) := Lib.hid ⟨(n - 1).toNat, by have := (live_lt hl).1; omega⟩
                obtain ⟨j, hj⟩ := HJ.out
                subst hj
                have hj0 : ((j : Int) + 1 - 1).toNat = j := by omega
                have hjt : M.txns[j]? = some x := by have := (live_iff.1 hl).2.1; rwa [hj0] at this
                obtain ⟨r, hr, hrr⟩ := F1.out.deeds.row hjt
                have hjT : j < T.length := (List.getElem?_eq_some_iff.1 hr).1
                obtain ⟨tA', tc', et, ht1, ht2, ht3, HCT⟩ := (TC5.out.rk encS_len (Nat.le_refl _)).open_
                injection et with et1 et2 et3
                obtain ⟨bt, ot, e4, hbt, hxt⟩ := HCT.out j hjT
                subst e4
                subst et1
                have ht0 : wd.cell? ⟨bt, ot + j, none⟩ = some (.slice r.A r.n r.c) := by
                  have := hxt 0 _ rfl
                  rw [(List.getElem?_eq_some_iff.1 hr).2] at this
                  simpa [RowS.v] using this
                have hrk := RW5.out.ok r (List.mem_of_getElem? hr)
                have hrn2 : r.n = x.refs.length := by
                  obtain ⟨_, _, e, _⟩ := (hrk.rk encR_len (Nat.le_refl _)).open_
                  injection e with e1 e2 e3
                  rw [e2, hrr]
                have hjn : j < tn := by omega
                have hjn2 : (j : Int) < (tn : Int) := by omega
                have hj2 : j ≤ 300000 := by have := HSM.out.1; have := F1.out.deeds.len; omega
                have hw1 : IntKind.i64.wrap (j : Int) = (j : Int) := by rw [IntKind.wrap_i64]; omega
                have hw2 : IntKind.i64.wrap (M.last + 1) = M.last + 1 := by rw [IntKind.wrap_i64]; omega
                have HR := Lib.hid hr
                have HRX : Hid (r.rs = x.refs) := Lib.hid hrr
                obtain ⟨qA, qn, qc, qrs⟩ := r
                dsimp only at ht0 hrn2
                by_cases hx0 : x.refs = []
                · have hqn : qn = 0 := by rw [hrn2, hx0]; rfl
                  subst hqn
                  have HCE : Hid (M.commit ((j : Int) + 1) = M.over ((j : Int) + 1)) := Lib.hid (by unfold MV.commit MV.refsOf; rw [hl, if_neg (fun h => h.2 hx0)])
                  have HLC : Hid ((M.commit ((j : Int) + 1)).last = M.last) := Lib.hid (by rw [HCE.out, over_last])
                  clear hl hr hrr hjt hj0 ht1 ht2 ht3 hbt hxt et2 et3 hjT hrk hrn2 hx0 hte hct hst
                  go_wp2_with fail
                  refine (bLast w.heap.size _ g _ TB5.out).mono ?_
                  rintro e w9 ⟨rfl, h9⟩; subst w9
                  rw [HLC.out]
                  go_wp2_with fail
                  go_meet
                  case rel => exact ⟨T, D, _, _, _, _, _, _, rfl, rfl, rfl, by omega, Lib.hid ⟨by rw [HRUN.out]; exact TB5.out, RW5.out, TC5.out, DN5.out, by rw [HRUN.out, HCE.out]; exact deeds_over F1.out.deeds _⟩, B5⟩
                · have hqp : 0 < qn := by
                    rw [hrn2]
                    exact List.length_pos_iff.2 hx0
                  have hqp2 : decide ((0 : Int) < (qn : Int)) = true := by simpa using hqp
                  have HCE : Hid (M.commit ((j : Int) + 1) = (M.win ((j : Int) + 1)).over ((j : Int) + 1)) := Lib.hid (by unfold MV.commit MV.refsOf; rw [hl, if_pos ⟨hte.symm, hx0⟩])
                  have HLC : Hid ((M.commit ((j : Int) + 1)).last = M.last + 1) := Lib.hid (by rw [HCE.out, over_win hl])
                  have hct2 : ct = M.last + 1 := by rw [hct]; unfold MV.commitT MV.refsOf; rw [hl, if_pos hte.symm, if_neg hx0]
                  subst hct2
                  have HDW : Hid (Deeds (M.commit ((j : Int) + 1)) T (D ++ [⟨st, M.last + 1, ⟨qA, qn, qc, qrs⟩⟩])) := Lib.hid (by
                    rw [HCE.out, HST.out]
                    exact deeds_win F1.out.deeds hl hte.symm (by rw [hj0]; exact HR.out) HRX.out)
                  have HDL : Hid (D.length + 1 ≤ 1000000) := Lib.hid (by have := HS.out.len; omega)
                  clear hl hr hrr hjt hj0 ht1 ht2 ht3 hbt hxt et2 et3 hjT hrk hrn2 hx0 hte hct hst
                  go_wp2_with fail
                  refine (bLast w.heap.size _ g _ TB5.out).mono ?_
                  rintro e w9 ⟨rfl, h9⟩; subst w9
                  rw [HLC.out]
                  go_wp2_with (first
                    | (at_builtin; go_loud (refine wpList_appE etSp encSp_len encSp_one (y := ⟨st, M.last + 1, ⟨qA, qn, qc, qrs⟩⟩) rfl (.tmp 144) (.tmp 154) rfl rfl (DN5.out.alloc _) wd.heap.size rfl (oneSp wd ⟨st, M.last + 1, ⟨qA, qn, qc, qrs⟩⟩ _) HDL.out (base1 hwd _) ?_); intro v6 w6 k1 k2 k3; obtain ⟨A6, c6, hv6, -, -, -, -⟩ := (k1.rk encSp_len (Nat.le_refl _)).open_; subst hv6; have K1 := Lib.hid k1; have K2 := Lib.hid k2; clear k1 k2 k3))
                  go_meet
                  case rel =>
                    have hk := K1.out
                    rw [show (D ++ [(⟨st, M.last + 1, ⟨qA, qn, qc, qrs⟩⟩ : SpanV)]).length = D.length + 1 by simp] at hk
                    exact ⟨T, D ++ [⟨st, M.last + 1, ⟨qA, qn, qc, qrs⟩⟩], _, _, _, _, _, _, rfl, rfl, rfl, by rw [List.length_append, List.length_singleton]; omega, Lib.hid ⟨by rw [HRUN.out]; exact TB5.out.beside DN5.out (by decide) K2.out, ⟨fun r hr => (RW5.out.ok r hr).beside DN5.out (by decide) K2.out, RW5.out.apart⟩, TC5.out.beside DN5.out (by decide) K2.out, hk, by rw [HRUN.out]; exact HDW.out⟩, Lib.hid (below_beside B5.out DN5.out K2.out)⟩
              · have hte0 : (te == 0) = false := by simpa using h00
                have HCE : Hid (M.commit n = M.over n) := Lib.hid (by unfold MV.commit; rw [if_neg (fun h => h00 (hte.trans h.1))])
                have HLC : Hid ((M.commit n).last = M.last) := Lib.hid (by rw [HCE.out, over_last])
                clear h00 hte hct hst
                go_wp2_with fail
                refine (bLast w.heap.size _ g _ TB5.out).mono ?_
                rintro e w9 ⟨rfl, h9⟩; subst w9
                rw [HLC.out]
                go_wp2_with fail
                go_meet
                case rel => exact ⟨T, D, _, _, _, _, _, _, rfl, rfl, rfl, by omega, Lib.hid ⟨by rw [HRUN.out]; exact TB5.out, RW5.out, TC5.out, DN5.out, by rw [HRUN.out, HCE.out]; exact deeds_over F1.out.deeds _⟩, B5⟩
            · have g3 : (kd == 3) = false := by simpa using h3
              by_cases h4 : kd = 4
              · subst h4
                go_wp2_with fail
                refine (bAbort w.heap.size _ g M HFW.out.tb hwW n HN64.out).mono ?_
                rintro e wd ⟨rfl, h5, t5⟩
                have F5 := Lib.hid (HFW.out.turn h5 t5 (deeds_over HFW.out.deeds n))
                have B5 := Lib.hid (HTW.out.trans t5.below)
                clear h5 t5
                go_wp2_with fail
                go_meet
                case rel => exact ⟨T, D, _, _, _, _, _, _, rfl, rfl, rfl, by omega, F5, B5⟩
              · have g4 : (kd == 4) = false := by simpa using h4
                have HRUN := Lib.hid (run_0 M n rA rn rc refs h1 h2 h3 h4)
                go_wp2_with fail
                go_meet
                case rel => exact ⟨T, D, _, _, _, _, _, _, rfl, rfl, rfl, by omega, Lib.hid (by rw [HRUN.out]; exact HFW.out), HTW⟩
      case rest =>
        obtain ⟨T', D', tA', dA', tn', tc', dn', dc', rfl, rfl, rfl, hdk', HF', HT'⟩ := hcut
        obtain ⟨M', hM'⟩ : ∃ M', M' = M.run ⟨kd, n, rA, rn, rc, refs⟩ := ⟨_, rfl⟩
        have HREL : Hid ((MV.new last).runs (os.take (k + 1)) = M') := Lib.hid (by rw [HTK.out, runs_snoc, ← HM.out, hM'])
        have hhor : M.hor ≤ M'.hor := by rw [hM']; exact run_hor M _
        rw [← hM'] at HF'
        clear hM'
        obtain ⟨h0, hh0⟩ : ∃ h0, h0 = M.hor := ⟨_, rfl⟩
        obtain ⟨h9, hh9⟩ : ∃ h9, h9 = M'.hor := ⟨_, rfl⟩
        obtain ⟨l9, hl9⟩ : ∃ l9, l9 = M'.last := ⟨_, rfl⟩
        have hlast := hor_le_last M'
        rw [← hh9, ← hl9] at hlast
        rw [← hh0, ← hh9] at hhor
        rw [← hh0]
        have HH9 := Lib.hid hh9
        have HL9 := Lib.hid hl9
        have hd1 : decide (h9 < h0) = false := by simpa using hhor
        have hd2 : decide (l9 < h9) = false := by simpa using hlast
        clear hh0 hh9 hl9
        go_wp2_with fail
        refine (bHorizon w.heap.size _ g M' HF'.out.tb).mono ?_
        rintro e wc ⟨rfl, hbc⟩
        rw [← HH9.out]
        have F1 := Lib.hid (HF'.out.below hbc)
        have B1 := Lib.hid (HT'.out.trans (hbc.mono HT'.out.size))
        clear hbc
        go_wp2_with fail
        refine (bHorizon w.heap.size _ g M' F1.out.tb).mono ?_
        rintro e wd ⟨rfl, hbd⟩
        rw [← HH9.out]
        have F2 := Lib.hid (F1.out.below hbd)
        have B2 := Lib.hid (B1.out.trans (hbd.mono B1.out.size))
        clear hbd
        go_wp2_with fail
        refine (bLast w.heap.size _ g M' F2.out.tb).mono ?_
        rintro e _ ⟨rfl, rfl⟩
        rw [← HL9.out]
        go_wp2_with fail
        refine (bHorizon w.heap.size _ g M' F2.out.tb).mono ?_
        rintro e we ⟨rfl, hbe⟩
        rw [← HH9.out]
        have F3 := Lib.hid (F2.out.below hbe)
        have B3 := Lib.hid (B2.out.trans (hbe.mono B2.out.size))
        clear hbe
        go_wp2_with fail
        refine (bLive w.heap.size _ g M' F3.out.tb).mono ?_
        rintro e w8 ⟨v8, rfl, h8, hb8⟩
        obtain ⟨V, hV⟩ : ∃ V, V = M'.nums := ⟨_, rfl⟩
        rw [← hV] at h8
        obtain ⟨A8, c8, hv8, -, -, -, -⟩ := (h8.rk encI_len (Nat.le_refl _)).open_
        subst hv8
        have hn8 : V.length ≤ 8 := by rw [hV]; exact F3.out.tb.ok.few
        have HV := Lib.hid hV
        have F4 := Lib.hid (F3.out.below hb8)
        have B4 := Lib.hid (B3.out.trans (hb8.mono B3.out.size))
        have O8 := Lib.hid (h8.rk encI_len (Nat.le_refl _))
        clear h8 hb8 hV
        go_wp2_with fail
        go_loopw [182] (fun i wx => ∃ m : Nat, m ≤ V.length ∧ i = .int .i64 m ∧ Hid (FirstAt w.heap.size g M' T' D' (.slice tA' tn' tc') (.slice dA' dn' dc') wx) ∧ Hid (Below w.heap.size w wx) ∧ Hid (RI wx wx.heap.size (.slice A8 V.length c8) V)) (fun i _ => V.length - (intOf i).toNat)
        case atStart => exact ⟨0, Nat.zero_le _, rfl, F4, B4, O8⟩
        case round =>
          obtain ⟨m, hm, rfl, HTX, HTT, HOX⟩ := hrel
          by_cases hmo : m < V.length
          · obtain ⟨A9, c9, e9, -, -, -, HCV⟩ := HOX.out.open_
            injection e9 with e91 e92 e93
            obtain ⟨b3, o3, e3, hb3, hx3⟩ := HCV.out m hmo
            rw [← e91] at e3
            subst e3
            have u0 : wr.cell? ⟨b3, o3 + m, none⟩ = some (.int .i64 V[m]) := by
              have := hx3 0 _ rfl
              simpa using this
            obtain ⟨q, hq⟩ : ∃ q, q = V[m] := ⟨_, rfl⟩
            rw [← hq] at u0
            have hnm : (M'.live? q).isSome = true := mem_nums.1 (by rw [← HV.out, hq]; exact List.getElem_mem hmo)
            obtain ⟨x, hx⟩ := Option.isSome_iff_exists.1 hnm
            have hlt := live_lt hx
            have hsm := HSM2.out.1
            rw [HREL.out] at hsm
            have hq64 : I64 q := by unfold I64; omega
            have HTE := Lib.hid (touchE_live hx)
            obtain ⟨st, hst⟩ : ∃ st, st = M'.startOf q := ⟨_, rfl⟩
            have hge : h9 ≤ st := by rw [hst, HH9.out]; unfold MV.startOf; rw [hx]; exact hor_le hx
            have hd3 : decide (st < h9) = false := by simpa using hge
            have HST := Lib.hid hst
            clear hnm hx hlt hq hx3 HCV e91 e92 e93 hb3 hst hsm
            go_wp2_with fail
            refine (bStart w.heap.size wr g M' HTX.out.tb q hq64).mono ?_
            rintro e wy ⟨rfl, hby⟩
            rw [HTE.out, ← HST.out]
            have F5 := Lib.hid (HTX.out.below hby)
            have B5 := Lib.hid (HTT.out.trans (hby.mono HTT.out.size))
            have O5 := Lib.hid ((HOX.out.below hby).more hby.size)
            clear hby
            go_wp2_with fail
            go_roundw
            case rel => exact ⟨m + 1, by omega, by go_num, F5, B5, O5⟩
            case measure => simp [intOf]; omega
          · go_wp2_with fail
            go_roundw
            case rel => exact ⟨k + 1, T', D', _, _, _, _, _, _, by omega, by go_num, rfl, rfl, by rw [HREL.out, ← HH9.out], hdk', Lib.hid (by rw [HREL.out]; exact HTX.out), HTT⟩
            case measure => simp [intOf]; omega
    · have HSMB := Lib.hid (runs_small (last := last) HS.out k).2
      obtain ⟨M, hM⟩ : ∃ M, M = (MV.new last).runs (os.take k) := ⟨_, rfl⟩
      rw [← hM] at HF HSMB
      rw [← hM]
      clear hM
      obtain ⟨N, hN⟩ : ∃ N, N = D.length := ⟨_, rfl⟩
      obtain ⟨dA2, dc2, ed, hd1, hd2, hd3, HCD⟩ := (HF.out.don.rk encSp_len (Nat.le_refl _)).open_
      injection ed with ed1 ed2 ed3
      subst ed1
      subst ed3
      rw [← hN] at ed2 hd1 hd3 hdk
      subst ed2
      have HN := Lib.hid hN
      have HSMX : Hid (M.bulk ≤ 400000) := Lib.hid HSMB.out
      have hN3 : dn ≤ 300000 := by have := HS.out.len; omega
      clear hN
      obtain ⟨w0, hw0⟩ : ∃ w0, w0 = wr := ⟨_, rfl⟩
      rw [← hw0] at HF HCD HT
      have HB0 : Hid (Below w0.heap.size w0 wr) := Lib.hid (by rw [hw0]; exact Below.refl _ _)
      clear hw0
      go_wp2_with fail
      go_loopw [203] (fun i wx => ∃ p : Nat, p ≤ dn ∧ i = .int .i64 p ∧ Hid (Below w0.heap.size w0 wx)) (fun i _ => dn - (intOf i).toNat)
      case atStart => exact ⟨0, Nat.zero_le _, rfl, HB0⟩
      case round =>
        obtain ⟨p, hp, rfl, HBX⟩ := hrel
        by_cases hpo : p < dn
        · obtain ⟨b3, o3, rfl, hb3, hx3⟩ := HCD.out p (by have := HN.out; omega)
          have u0 : wr.cell? ⟨b3, o3 + p * 3, none⟩ = _ := (HBX.out.cell (p := ⟨b3, o3 + p * 3, none⟩) hb3).trans (hx3 0 _ rfl)
          have u1 : wr.cell? ⟨b3, o3 + p * 3 + 1, none⟩ = _ := (HBX.out.cell (p := ⟨b3, o3 + p * 3 + 1, none⟩) hb3).trans (hx3 1 _ rfl)
          have u2 : wr.cell? ⟨b3, o3 + p * 3 + 2, none⟩ = _ := (HBX.out.cell (p := ⟨b3, o3 + p * 3 + 2, none⟩) hb3).trans (hx3 2 _ rfl)
          obtain ⟨a, ha⟩ : ∃ a, a = D[p]'(by have := HN.out; omega) := ⟨_, rfl⟩
          rw [← ha] at u0 u1 u2
          unfold RowS.v at u2
          have HA := Lib.hid ha
          obtain ⟨ba, hba⟩ : ∃ ba, ba = wr.heap.size := ⟨_, rfl⟩
          have HBA := Lib.hid hba
          have hk1 : Blk (wr.alloc (.cells #[.int .i64 a.start, .int .i64 a.at_, .slice a.row.A a.row.n a.row.c] 51)) ba 51 #[.int .i64 a.start, .int .i64 a.at_, .slice a.row.A a.row.n a.row.c] := by rw [hba]; exact Blk.new _ _ _
          have HK1 := Lib.hid hk1
          have HBY : Hid (Below w0.heap.size w0 (wr.alloc (.cells #[.int .i64 a.start, .int .i64 a.at_, .slice a.row.A a.row.n a.row.c] 51))) := Lib.hid (HBX.out.alloc HBX.out.size _)
          clear ha hx3 hba hk1
          obtain ⟨ox, hox, HOX⟩ : ∃ ox : Nat, (if dc = p + 1 then some (⟨b3, o3, none⟩ : Addr) else some ⟨b3, o3 + (p + 1) * 3, none⟩) = some ⟨b3, ox, none⟩ ∧ Hid (p + 1 < dc → ox = o3 + (p + 1) * 3) := by
            by_cases hdc : dc = p + 1
            · exact ⟨o3, by rw [if_pos hdc], Lib.hid (fun h => by omega)⟩
            · exact ⟨o3 + (p + 1) * 3, by rw [if_neg hdc], Lib.hid (fun _ => rfl)⟩
          go_wp2_with fail
          rw [← HBA.out]
          go_loopw [213] (fun i wx => ∃ q : Nat, q ≤ dn - (p + 1) ∧ i = .int .i64 q ∧ Hid (Below w0.heap.size w0 wx) ∧ Hid (Blk wx ba 51 #[.int .i64 a.start, .int .i64 a.at_, .slice a.row.A a.row.n a.row.c])) (fun i _ => dn - (p + 1) - (intOf i).toNat)
          case atStart => exact ⟨0, Nat.zero_le _, rfl, HBY, HK1⟩
          case round =>
            obtain ⟨q, hq, rfl, HBQ, HKQ⟩ := hrel
            have s0 : wr.cell? ⟨ba, 0, none⟩ = some (.int .i64 a.start) := HKQ.out.cell 0
            have s1 : wr.cell? ⟨ba, 1, none⟩ = some (.int .i64 a.at_) := HKQ.out.cell 1
            have s2 : wr.cell? ⟨ba, 2, none⟩ = some (.slice a.row.A a.row.n a.row.c) := HKQ.out.cell 2
            have hba2 := HKQ.out.lt
            by_cases hqo : q < dn - (p + 1)
            · have hqD : p + 1 + q < D.length := by have := HN.out; omega
              obtain ⟨b4, o4, e4, hb4, hx4⟩ := HCD.out (p + 1 + q) hqD
              injection e4 with e4
              injection e4 with e41 e42
              subst e41
              subst e42
              obtain ⟨b, hbd⟩ : ∃ b, b = D[p + 1 + q] := ⟨_, rfl⟩
              rw [← hbd] at hx4
              have v0 : wr.cell? ⟨b3, o3 + (p + 1 + q) * 3, none⟩ = _ := (HBQ.out.cell (p := ⟨b3, o3 + (p + 1 + q) * 3, none⟩) hb3).trans (hx4 0 _ rfl)
              have v1 : wr.cell? ⟨b3, o3 + (p + 1 + q) * 3 + 1, none⟩ = _ := (HBQ.out.cell (p := ⟨b3, o3 + (p + 1 + q) * 3 + 1, none⟩) hb3).trans (hx4 1 _ rfl)
              have v2 : wr.cell? ⟨b3, o3 + (p + 1 + q) * 3 + 2, none⟩ = _ := (HBQ.out.cell (p := ⟨b3, o3 + (p + 1 + q) * 3 + 2, none⟩) hb3).trans (hx4 2 _ rfl)
              have hox2 := HOX.out (by omega)
              rw [show o3 + (p + 1 + q) * 3 = ox + q * 3 by omega] at v0 v1 v2
              clear hox2
              unfold RowS.v at v2
              clear hx4
              have hpair : ¬ (b.start < a.at_ ∧ common a.row.rs b.row.rs = true) := by
                have := List.pairwise_iff_getElem.1 HF.out.deeds.pair p (p + 1 + q) (by have := HN.out; omega) hqD (by omega)
                rw [← HA.out, ← hbd] at this
                exact this
              have HPR := Lib.hid hpair
              have HBM := Lib.hid (show b ∈ D by rw [hbd]; exact List.getElem_mem _)
              have HAM := Lib.hid (show a ∈ D by rw [HA.out]; exact List.getElem_mem _)
              have hw1 := HBQ.out.size
              have HBY2 : Hid (Below w0.heap.size w0 (wr.alloc (.cells #[.int .i64 b.start, .int .i64 b.at_, .slice b.row.A b.row.n b.row.c] 51))) := Lib.hid (HBQ.out.alloc hw1 _)
              have HKY2 := Lib.hid (HKQ.out.alloc (.cells #[.int .i64 b.start, .int .i64 b.at_, .slice b.row.A b.row.n b.row.c] 51))
              clear hpair hbd hb4
              by_cases hlt : b.start < a.at_
              · have hld : decide (b.start < a.at_) = true := by simpa using hlt
                have HCM : Hid (common a.row.rs b.row.rs = false) := Lib.hid (by cases hc : common a.row.rs b.row.rs with | false => rfl | true => exact absurd ⟨hlt, hc⟩ HPR.out)
                go_wp2_with fail
                refine (rMeet_any _ _ _ a.row.rs b.row.rs (((HF.out.span HAM.out).1.below HBY2.out).more HBY2.out.size) (((HF.out.span HBM.out).1.below HBY2.out).more HBY2.out.size) (by have := (HF.out.span HAM.out).2; have := HSMX.out; omega) (by have := (HF.out.span HBM.out).2; have := HSMX.out; omega)).mono ?_
                rintro e wz ⟨rfl, hbz⟩
                rw [HCM.out]
                have B9 := Lib.hid (HBY2.out.trans (hbz.mono HBY2.out.size))
                have K9 := Lib.hid (HKY2.out.below hbz HKY2.out.lt)
                clear hbz
                go_wp2_with fail
                go_roundw
                case rel => exact ⟨q + 1, by omega, by go_num, B9, K9⟩
                case measure => simp [intOf]; omega
              · have hld : decide (b.start < a.at_) = false := by simpa using hlt
                go_wp2_with fail
                go_roundw
                case rel => exact ⟨q + 1, by omega, by go_num, HBY2, HKY2⟩
                case measure => simp [intOf]; omega
            · go_wp2_with fail
              go_roundw
              case rel => exact ⟨p + 1, by omega, by go_num, HBQ⟩
              case measure => simp [intOf]; omega
        · go_wp2_with fail
          go_ret
          exact ⟨rfl, HT.out.trans (HBX.out.mono HT.out.size)⟩

end Go.Proofs.Ytgahkloldpjnkaa
