/-
  The walk of skeinlaw08's PageParses: all bytes are parsed, or refused, as the document says.
-/
import Derived.Test.YtdghanhpeekbhaaZQ7
import Derived.Test.YtdghanhpeekbhaaZQ10
import Derived.Test.YtdghanhpeekbhaaZQ12
import Derived.Test.YtdghanhpeekbhaaZJ21a
namespace Go.Proofs.Ytdghanhpeekbhaa
open Go.RowKit Go.Maps
set_option linter.unusedVariables false

theorem refParse8_any (w : World) (v : Value) (L : List Nat) (hv : RB w w.heap.size v L) (its : List (List Nat)) (hP : HeadOk L → Pre L (L.getD 17 0) its) :
    Calls Try.prog 8 #[v] w fun e w' => Below w.heap.size w w' ∧ ((e = .returned (.tuple #[refP none 0 0, .bool false]) ∧ ¬ IsPage L its) ∨ (IsPage L its ∧ ∃ v' ys, e = .returned (.tuple #[refPg (leV ((L.drop 4).take 8)) (L.getD 12 0) (leV ((L.drop 13).take 4)) v', .bool true]) ∧ NewTxt w' w.heap.size v' its ys)) := by
  obtain ⟨A, c, rfl, -, -, -, -⟩ := hv.open_
  by_cases hlen : L.length = 512
  · rw [hlen] at hv ⊢
    by_cases hk : HeadOk L
    · refine (refPg_pre w L A c hv hk _ rfl its (hP hk) _ _ _ rfl rfl rfl).mono ?_
      rintro e w' ⟨h1, h2⟩
      refine ⟨h1, ?_⟩
      rcases h2 with ⟨h2, h3⟩ | ⟨h2, h3⟩
      · exact .inl ⟨h2, fun h => h3 h.2⟩
      · exact .inr ⟨⟨hk, h2⟩, h3⟩
    · refine (refPg_head w L A c hv hlen hk).mono ?_
      rintro e w' ⟨h1, h2⟩
      exact ⟨h2, .inl ⟨h1, fun h => hk h.1⟩⟩
  · refine (refPg_len w A L.length c hlen).mono ?_
    rintro e w' ⟨h1, h2⟩
    exact ⟨h2, .inl ⟨h1, fun h => hlen h.1.len⟩⟩

theorem isPage_pg {L : List Nat} {its : List (List Nat)} (h : IsPage L its) (hb : ∀ x ∈ L, x < 256) (hp : Pre L (L.getD 17 0) its) : pageL (pgOf L its) = L ∧ (pgOf L its).Fit ∧ (pgOf L its).Ok := by
  have hl := h.1.len
  have h17 : L[17]? = some (L.getD 17 0) := by rw [List.getD, List.getElem?_eq_getElem (by omega)]; rfl
  obtain ⟨h1, h2⟩ := pre_full hl hb h.1.sum h17 hp.toPre0 h.2.1 h.2.2
  exact ⟨h1, h2, pgOf_ok hl hb h.1.cnt h.1.lsn hp.toPre0⟩

theorem NewTxt.mod {w w' : World} {B : Nat} {v : Value} {L : List (List Nat)} {ys : List Sl} {S : Nat → Prop} (h : NewTxt w B v L ys) (hm : Mod S w w') (hs : ∀ k, S k → k < B) : NewTxt w' B v L ys :=
  ⟨h.ok.mod hm (fun b hb e => by have := (h.ok.lt b hb).1; have := hs b e; omega), h.len, fun j y l h1 h2 => (h.at_ j y l h1 h2).mod hm (fun b hb e => by have := ((h.at_ j y l h1 h2).lt b hb).1; have := hs b e; omega)⟩

set_option maxRecDepth 100000 in
set_option maxHeartbeats 4000000 in
theorem pageParses_run (w : World) (v : Value) (L : List Nat) (hv : RB w w.heap.size v L) (hn : L.length ≤ 140737488351232) :
    Calls Try.prog 3 #[v] w fun e w' => e = .returned (.bool true) ∧ Below w.heap.size w w' := by
  obtain ⟨its, hP⟩ := its_exists L
  obtain ⟨n, hnl⟩ : ∃ n, n = L.length := ⟨_, rfl⟩
  obtain ⟨A, c, rfl, -, -, -, -⟩ := hv.open_
  rw [← hnl] at hv hn ⊢
  have HV := Lib.hid hv
  have HNL := Lib.hid hnl
  have HP := Lib.hid hP
  have hml : (L ++ marks).length = n + 64 := by rw [List.length_append, hnl]; rfl
  have HML := Lib.hid hml
  clear hv hnl hP hml
  go_enter Try.func3, Try.ntmps3
  go_wp2_with fail
  refine (alive8_any w).mono ?_
  rintro e w1 ⟨rfl, hb1⟩
  have HV1 : Hid (RB w1 w1.heap.size (.slice A n c) L) := Lib.hid ((HV.out.below hb1).more hb1.size)
  have HB1 := Lib.hid hb1
  clear hb1
  go_wp2_with fail
  refine (wide_any _ L w1 HV1.out (by rw [← HNL.out]; omega)).mono ?_
  rintro e w2 ⟨v2, rfl, ho2, hb2⟩
  obtain ⟨g, cap, rfl, hg1, hg2, hg3, hg4, -, -⟩ := ho2.form (by simp [marks])
  rw [HML.out] at ho2 hg3 ⊢
  have hcap : ¬ cap = n := by omega
  have HO2 := Lib.hid ho2
  have hr2 : RB w2 w2.heap.size (.slice (some ⟨g, 0, none⟩) n cap) L := by
    have h1 := ho2.rbn.sub (lo := 0) (m := n) (c' := cap) (by rw [HML.out]; omega) (by omega) (by omega)
    rw [List.drop_zero, List.take_left' HNL.out.symm] at h1
    exact h1
  have HR2 := Lib.hid hr2
  have HV2 : Hid (RB w2 w2.heap.size (.slice A n c) L) := Lib.hid ((HV1.out.below hb2).more hb2.size)
  have HB2 : Hid (Below w.heap.size w w2) := Lib.hid (HB1.out.trans (hb2.mono HB1.out.size))
  have hz1 := HB1.out.size
  have hz12 := hb2.size
  clear ho2 hr2 hb2
  by_cases hI : IsPage L its
  · obtain ⟨hpl, hfit, hok⟩ := isPage_pg hI HV.out.1 (HP.out hI.1)
    have h512 : n = 512 := by rw [HNL.out]; exact hI.1.len
    subst h512
    obtain ⟨m, hm⟩ : ∃ m, m = pgOf L its := ⟨_, rfl⟩
    rw [← hm] at hpl hfit hok
    have HM := Lib.hid hm
    have HI := Lib.hid hI
    have HPL := Lib.hid hpl
    have HFIT := Lib.hid hfit
    have HOK := Lib.hid hok
    clear hm hI hpl hfit hok
    go_wp2_with ((go_at_call 7; refine (pageParse_in w2 m HOK.out HFIT.out g 0 cap (by omega) (by omega) hg2 (by rw [HPL.out]; exact HR2.out)).mono ?_; rintro e w3 ⟨p, vp, xs, rfl, hp3, hb3, hin⟩))
    have HIN := Lib.hid hin
    have HP3 := Lib.hid hp3
    have HB3 : Hid (Below w2.heap.size w2 w3) := Lib.hid hb3
    have HV3 : Hid (RB w3 w3.heap.size (.slice A 512 c) L) := Lib.hid ((HV2.out.below hb3).more hb3.size)
    clear hin hp3 hb3
    go_wp2_with fail
    refine (refParse8_any w3 _ L HV3.out its HP.out).mono ?_
    rintro e w4 ⟨hb4, h4⟩
    obtain ⟨v4, ys, rfl, ht4⟩ : ∃ v' ys, e = .returned (.tuple #[refPg (leV ((L.drop 4).take 8)) (L.getD 12 0) (leV ((L.drop 13).take 4)) v', .bool true]) ∧ NewTxt w4 w3.heap.size v' its ys := by
      rcases h4 with ⟨-, h⟩ | ⟨-, h⟩
      · exact absurd HI.out h
      · exact h
    obtain ⟨A4, c4, rfl, -⟩ := ht4.rowR.open_
    obtain ⟨ls, hls⟩ : ∃ ls, ls = leV ((L.drop 4).take 8) := ⟨_, rfl⟩
    obtain ⟨kd, hkd⟩ : ∃ kd, kd = L.getD 12 0 := ⟨_, rfl⟩
    obtain ⟨ex, hex⟩ : ∃ ex, ex = leV ((L.drop 13).take 4) := ⟨_, rfl⟩
    obtain ⟨nI, hnI⟩ : ∃ nI, nI = its.length := ⟨_, rfl⟩
    rw [← hls, ← hkd, ← hex, ← hnI]
    rw [← hnI] at ht4
    have HLS : Hid (m.lsn = (ls : Int)) := Lib.hid (by rw [HM.out, hls]; rfl)
    have HKD : Hid (kd = m.kind) := Lib.hid (by rw [HM.out, hkd]; rfl)
    have HEX : Hid (ex = m.extra) := Lib.hid (by rw [HM.out, hex]; rfl)
    have HIT : Hid (m.items = its) := Lib.hid (by rw [HM.out]; rfl)
    obtain ⟨W4, hW4⟩ : ∃ W4, W4 = w4.alloc (.cells #[.int .i64 (ls : Int), .int .u8 (kd : Int), .int .u32 (ex : Int), .slice A4 nI c4] 32) := ⟨_, rfl⟩
    have hbW : Below w4.heap.size w4 W4 := by rw [hW4]; exact (Below.refl _ _).alloc (Nat.le_refl _) _
    have hB4 : Blk W4 w4.heap.size 32 #[.int .i64 (ls : Int), .int .u8 (kd : Int), .int .u32 (ex : Int), .slice A4 nI c4] := by rw [hW4]; exact Blk.new _ _ _
    have hb34 : Below w3.heap.size w3 W4 := hb4.trans (hbW.mono hb4.size)
    have hb24 : Below w2.heap.size w2 W4 := HB3.out.trans (hb34.mono HB3.out.size)
    have HPG4 : Hid (PageAt W4 p w2.heap.size vp xs m) := Lib.hid (HP3.out.below hb34)
    have HT4 : Hid (NewTxt W4 w3.heap.size (.slice A4 nI c4) its ys) := Lib.hid ⟨ht4.ok.below hbW, ht4.len, fun j y l h1 h2 => (ht4.at_ j y l h1 h2).below hbW⟩
    have HO4 : Hid (OB W4 w1.heap.size (.slice (some ⟨g, 0, none⟩) 576 cap) (L ++ marks)) := Lib.hid (HO2.out.below hb24)
    have HV4 : Hid (RB W4 W4.heap.size (.slice A 512 c) L) := Lib.hid ((HV2.out.below hb24).more hb24.size)
    have HRW4 : Hid (RB W4 W4.heap.size (.slice (some ⟨g, 0, none⟩) 576 cap) (L ++ marks)) := Lib.hid (HO4.out.rbn)
    have HB4 : Hid (Below w.heap.size w W4) := Lib.hid (HB2.out.trans (hb24.mono HB2.out.size))
    have hzz : g < w4.heap.size := by have := HB3.out.size; have := hb4.size; omega
    have hz24 : w2.heap.size ≤ w3.heap.size := HB3.out.size
    have hz34 : w3.heap.size ≤ w4.heap.size := hb4.size
    have HBL4 := Lib.hid hB4
    have HW4 := Lib.hid hW4
    unfold refPg
    clear hls hkd hex hnI ht4 h4 hb4 hbW hB4 hb34 hb24 hW4
    go_wp2_with fail
    rw [← HW4.out]
    refine (intact_b HRW4.out HV4.out).mono ?_
    rintro e w5 ⟨rfl, hb5⟩
    have HB5 : Hid (Below W4.heap.size W4 w5) := Lib.hid hb5
    have HO5 : Hid (OB w5 w1.heap.size (.slice (some ⟨g, 0, none⟩) 576 cap) (L ++ marks)) := Lib.hid (HO4.out.below hb5)
    clear hb5
    go_wp2_with fail
    refine (spoil_any _ _ w5 w1.heap.size HO5.out).mono ?_
    rintro e w6 ⟨rfl, -, hg6⟩
    have hm6 : Mod (fun k => k = g) w5 w6 := (Mod.of_grown hg6).mono (fun k _ e => by injection e with e)
    have hsz6 := hm6.size
    have HPG6 : Hid (PageAt w6 p w2.heap.size vp xs m) := Lib.hid ((HPG4.out.below HB5.out).mod hm6 (fun e => by have := HPG4.out.base; omega) (fun b hb e => by have := (HPG4.out.row.lt b hb).1; omega) (HIN.out.off (fun k e => by omega)))
    have HBL5 := HBL4.out.below HB5.out HBL4.out.lt
    have HBL6 : Hid (Blk w6 w4.heap.size 32 #[.int .i64 (ls : Int), .int .u8 (kd : Int), .int .u32 (ex : Int), .slice A4 nI c4]) := Lib.hid (HBL5.mod hm6 (fun e => by omega))
    have HT6 : Hid (NewTxt w6 w3.heap.size (.slice A4 nI c4) its ys) := Lib.hid ((NewTxt.mk (HT4.out.ok.below HB5.out) HT4.out.len (fun j y l h1 h2 => (HT4.out.at_ j y l h1 h2).below HB5.out)).mod hm6 (fun k e => by omega))
    have HV5 : Hid (RB w5 w.heap.size (.slice A 512 c) L) := Lib.hid (HV.out.below (HB4.out.trans (HB5.out.mono HB4.out.size)))
    have HV6 : Hid (RB w6 w6.heap.size (.slice A 512 c) L) := Lib.hid ((HV5.out.more (by have := HB4.out.size; have := HB5.out.size; omega)).mod hm6 (RB.off HV5.out (fun k hk e => by omega)))
    have HB6 : Hid (Below w.heap.size w w6) := Lib.hid ((HB4.out.trans (HB5.out.mono HB4.out.size)).trans (hm6.below (by have := HB4.out.size; have := HB5.out.size; omega) (fun k e => by omega)))
    have HNR : Hid (RowR w6 (.slice A4 nI c4) m.items ys) := Lib.hid (by rw [HIT.out]; exact HT6.out.rowR)
    have q0 : w6.cell? ⟨w4.heap.size, 0, none⟩ = some (.int .i64 (ls : Int)) := HBL6.out.cell 0
    have q1 : w6.cell? ⟨w4.heap.size, 1, none⟩ = some (.int .u8 (kd : Int)) := HBL6.out.cell 1
    have q2 : w6.cell? ⟨w4.heap.size, 2, none⟩ = some (.int .u32 (ex : Int)) := HBL6.out.cell 2
    have q3 : w6.cell? ⟨w4.heap.size, 3, none⟩ = some (.slice A4 nI c4) := HBL6.out.cell 3
    clear hg6 hm6 hsz6 HBL5
    go_wp2_with (first
      | (go_at_call 11; refine (stands8_any w6 p w2.heap.size vp xs m (.slice A4 nI c4) ys ls kd ex HPG6.out HFIT.out HNR.out HLS.out HKD.out HEX.out).mono ?_; rintro e w7 ⟨rfl, hb7⟩; have HPG7 : Hid (PageAt w7 p w2.heap.size vp xs m) := Lib.hid (HPG6.out.below hb7); have HV7 : Hid (RB w7 w7.heap.size (.slice A 512 c) L) := Lib.hid ((HV6.out.below hb7).more hb7.size); have HB7 : Hid (Below w.heap.size w w7) := Lib.hid (HB6.out.trans (hb7.mono HB6.out.size)); clear hb7)
      | (go_at_call 13; refine (pageBytes_any w7 p w2.heap.size vp xs m HPG7.out HFIT.out).mono ?_; rintro e w8 ⟨g8, rfl, -, hbb8, hb8⟩; have HR8 : Hid (RB w8 w8.heap.size (.slice (some ⟨g8, 0, none⟩) 512 512) L) := Lib.hid (by have h1 := hbb8.row512 (pageL_len HFIT.out); rw [HPL.out] at h1; exact h1); have HV8 : Hid (RB w8 w8.heap.size (.slice A 512 c) L) := Lib.hid ((HV7.out.below hb8).more hb8.size); have HB8 : Hid (Below w.heap.size w w8) := Lib.hid (HB7.out.trans (hb8.mono HB7.out.size)); clear hbb8 hb8)
      | (go_at_call 12; refine (same_b HR8.out HV8.out).mono ?_; rw [sameB_self]; rintro e w9 ⟨rfl, hb9⟩; have HB9 : Hid (Below w.heap.size w w9) := Lib.hid (HB8.out.trans (hb9.mono HB8.out.size)); clear hb9))
    go_ret
    exact ⟨rfl, HB9.out⟩
  · go_wp2_with ((go_at_call 7; refine (pageParse_any w2 L _ HR2.out its HP.out).mono ?_; rintro e w3 ⟨hb3, h3⟩; obtain rfl : e = .returned (.tuple #[.pointer none, .int .i64 80]) := by rcases h3 with ⟨h, -⟩ | ⟨h, -⟩; (exact h); (exact absurd h hI)))
    have HV3 : Hid (RB w3 w3.heap.size (.slice A n c) L) := Lib.hid ((HV2.out.below hb3).more hb3.size)
    have HB3 : Hid (Below w2.heap.size w2 w3) := Lib.hid hb3
    clear hb3 h3
    go_wp2_with fail
    refine (refParse8_any w3 _ L HV3.out its HP.out).mono ?_
    rintro e w4 ⟨hb4, h4⟩
    obtain rfl : e = .returned (.tuple #[refP none 0 0, .bool false]) := by
      rcases h4 with ⟨h, -⟩ | ⟨h, -⟩
      · exact h
      · exact absurd h hI
    obtain ⟨W4, hW4⟩ : ∃ W4, W4 = w4.alloc (.cells #[.int .i64 0, .int .u8 0, .int .u32 0, .slice none 0 0] 32) := ⟨_, rfl⟩
    have hbW : Below w4.heap.size w4 W4 := by rw [hW4]; exact (Below.refl _ _).alloc (Nat.le_refl _) _
    have hb24 : Below w2.heap.size w2 W4 := HB3.out.trans ((hb4.trans (hbW.mono hb4.size)).mono HB3.out.size)
    have HV4 : Hid (RB W4 W4.heap.size (.slice A n c) L) := Lib.hid ((HV2.out.below hb24).more hb24.size)
    have HRW4 : Hid (RB W4 W4.heap.size (.slice (some ⟨g, 0, none⟩) (n + 64) cap) (L ++ marks)) := Lib.hid ((HO2.out.below hb24).rbn)
    have HB4 : Hid (Below w.heap.size w W4) := Lib.hid (HB2.out.trans (hb24.mono HB2.out.size))
    have HW4 := Lib.hid hW4
    unfold refP
    clear h4 hb4 hbW hb24 hW4 hI
    go_wp2_with fail
    rw [← HW4.out]
    refine (intact_b HRW4.out HV4.out).mono ?_
    rintro e w5 ⟨rfl, hb5⟩
    have HB5 : Hid (Below w.heap.size w w5) := Lib.hid (HB4.out.trans (hb5.mono HB4.out.size))
    clear hb5
    go_wp2_with fail
    go_ret
    exact ⟨rfl, HB5.out⟩
end Go.Proofs.Ytdghanhpeekbhaa
