/-
  The walk of skeinref08's Parse at bytes whose head is right.
-/
import Derived.Deep.RegionHeld3
import Derived.Test.YtdghanhpeekbhaaZQ9
namespace Go.Proofs.Ytdghanhpeekbhaa
open Go.RowKit Go.Maps
set_option linter.unusedVariables false

theorem refValue_at (w : World) (v : Value) (l : List Nat) (hv : RB w w.heap.size v l) (a n x : Nat) (ai ni : Int) (ha : ai = (a : Int)) (hni : ni = (n : Int)) (hl : a + n ≤ l.length) (hn : n ≤ 8) (hx : leV ((l.drop a).take n) = x) :
    Calls Try.prog 32 #[v, .int .i64 ai, .int .i64 ni] w fun e w' => e = .returned (.int .u64 (x : Int)) ∧ w' = w := by
  subst ha hni hx
  exact refValue_any w v l hv a n hl hn
/-- Where the reference's Parse stands behind k items: the result's block, the page's own, its row. -/
structure RL (w wr : World) (p z : Nat) (ls kd ex : Nat) (A : Option Addr) (k cr : Nat) (ys : List Sl) (its : List (List Nat)) : Prop where
  len : ys.length = k
  row : OK encSl 1 22 wr (z + 1) (.slice A k cr) ys
  item : ∀ (j : Nat) y l, ys[j]? = some y → its[j]? = some l → OB wr (z + 1) (slV y) l ∧ ∀ b, (slV y).ownBlock = some b → (Value.slice A k cr).ownBlock ≠ some b
  bp : Blk wr p 32 #[.int .i64 0, .int .u8 0, .int .u32 0, .slice none 0 0]
  bz : Blk wr z 32 #[.int .i64 (ls : Int), .int .u8 (kd : Int), .int .u32 (ex : Int), .slice A k cr]
  bel : Below p w wr
  pz : p < z

/-- One item more, a piece in new memory. -/
theorem RL.arm {w wr W1 : World} {p z ls kd ex k cr : Nat} {A : Option Addr} {ys : List Sl} {its : List (List Nat)} (h : RL w wr p z ls kd ex A k cr ys its) (hb1 : Below wr.heap.size wr W1) {x : Sl} {it : List Nat} (hit : its[k]? = some it) (ho1 : OB W1 wr.heap.size (slV x) it) (hk : k ≤ 1000)
    {ops : Array Oper} {o : Oper} {a : Act} {K : Act → World → Prop} {Q : Exit → Act → World → Prop} {F : Prop} (hgd : o.guard = none) (s y : Operand)
    (ho : o.op = .call { callee := .builtin .append, args := #[s, y], argTypes := #[30, 30] })
    (hs : a.eval s = .slice A k cr) (hy : a.eval y = .slice (some ⟨W1.heap.size, 0, none⟩) 1 1)
    (hK : ∀ A' c' w', w'.cell? ⟨z, 3, none⟩ = some (.slice A k cr) → w'.frozen? ⟨z, 3, none⟩ = false →
      Hid (RL w (w'.setCell ⟨z, 3, none⟩ (.slice A' (k + 1) c')) p z ls kd ex A' (k + 1) c' (ys ++ [x]) its) → K (a.put o.dst (.slice A' (k + 1) c')) w') :
    if Region.wanted o (yielded ops a.tmps) = true then Oper.wp Try.prog o a (W1.alloc (.cells #[slV x] 22)) K Q else F := by
  have hzlt := h.bz.lt
  have hpz := h.pz
  have hz1 := hb1.size
  have hlen := h.len
  refine step_app1 (y := x) etSls encSl_len encSl_one hgd s y ho hs ((h.row.below hb1).alloc _) W1.heap.size hy (by intro j u hu; rw [(Blk.new W1 _ _).cell j]; simpa [encSl] using hu) (by omega) (by have := hb1.size; simp; omega) ?_
  intro v' w' h1 h2 h3
  have hxl : (ys ++ [x]).length = k + 1 := by simp [hlen]
  obtain ⟨A', c', rfl, _, _, _, _⟩ := (h1.rk encSl_len (Nat.le_refl _)).open_
  rw [hxl] at h1 h3 ⊢
  have hrow : ∀ q, (Value.slice A k cr).ownBlock = some q → z + 1 ≤ q ∧ q < wr.heap.size := h.row.lt
  have hnew : ∀ b, (Value.slice A' (k + 1) c').ownBlock = some b → (Value.slice A k cr).ownBlock = some b ∨ W1.heap.size ≤ b := fun b hb => by
    rcases h3 with e | e
    · exact .inl (by rw [← e]; exact hb)
    · rw [e] at hb; injection hb with hb; simp at hb; exact .inr (by omega)
  have hm2 : Mod (fun q => (Value.slice A k cr).ownBlock = some q) (W1.alloc (.cells #[slV x] 22)) w' := (Mod.of_grown h2).mono (fun q _ e => e.symm)
  have hb2 : Below (z + 1) wr w' := (hb1.mono (by omega) |>.alloc (by omega) _).trans (hm2.below (by simp; omega) (fun q e => (hrow q e).1))
  have hst : Mod (fun q => q = z) w' (w'.setCell ⟨z, 3, none⟩ (.slice A' (k + 1) c')) := (Mod.refl (fun q => q = z) w').setCell (p := ⟨z, 3, none⟩) (fun _ => rfl) _
  have hbz := h.bz.below hb2 (by omega)
  have hbp := h.bp.below hb2 (by omega)
  have hold : ∀ (y : Sl) (l : List Nat), OB wr (z + 1) (slV y) l → (∀ b, (slV y).ownBlock = some b → (Value.slice A k cr).ownBlock ≠ some b) → OB w' (z + 1) (slV y) l := fun y l r1 r2 =>
    ((r1.below hb1).alloc (.cells #[slV x] 22)).mod hm2 (fun b hb e => r2 b hb e)
  have hx1 : OB w' (z + 1) (slV x) it := ((ho1.base (by omega)).alloc (.cells #[slV x] 22)).mod hm2 (fun b hb e => by
    have q1 := (ho1.lt b hb).1
    have q2 := (hrow b e).2
    omega)
  refine hK A' c' w' (hbz.cell 3) (hbz.frozen 3) ⟨hxl, h1.mod hst (fun b hb e => by have := (h1.lt b hb).1; omega), fun j y l hy' hl' => ?_, hbp.far (p := ⟨z, 3, none⟩) (by show p ≠ z; omega) _, hbz.set_ 3 _, ?_, hpz⟩
  · by_cases hj : j < k
    · rw [List.getElem?_append_left (by omega)] at hy'
      obtain ⟨r1, r2⟩ := h.item j y l hy' hl'
      refine ⟨(hold y l r1 r2).mod hst (fun b hb e => by have := (r1.lt b hb).1; omega), fun b hb e => ?_⟩
      rcases hnew b e with q | q
      · exact r2 b hb q
      · have := (r1.lt b hb).2; omega
    · rw [List.getElem?_append_right (by omega)] at hy'
      have hj0 : j - k = 0 := by
        have := (List.getElem?_eq_some_iff.1 hy').1
        simp at this; omega
      have hjk : j = k := by omega
      subst hjk
      rw [hlen, hj0] at hy'
      simp at hy'
      subst hy'
      rw [hit] at hl'
      injection hl' with hl'
      subst hl'
      refine ⟨hx1.mod hst (fun b hb e => by have := (hx1.lt b hb).1; omega), fun b hb e => ?_⟩
      have q1 := (ho1.lt b hb)
      rcases hnew b e with q | q
      · have := (hrow b q).2; omega
      · omega
  · exact (h.bel.trans (hb2.mono (by omega))).trans (hst.below (by have := hb2.size; have := h.bp.lt; omega) (fun q e => by omega))

set_option maxRecDepth 100000 in
set_option maxHeartbeats 16000000 in
theorem refPg_pre (w : World) (L : List Nat) (A0 : Option Addr) (c : Nat) (hv : RB w w.heap.size (.slice A0 512 c) L) (hk : HeadOk L) (n : Nat) (hn : n = L.getD 17 0) (its : List (List Nat)) (hP : Pre L n its) (ls kd ex : Nat) (hls : leV ((L.drop 4).take 8) = ls) (hkd : kd = L.getD 12 0) (hex : leV ((L.drop 13).take 4) = ex) :
    Calls Try.prog 8 #[.slice A0 512 c] w fun e w' => Below w.heap.size w w' ∧ ((e = .returned (.tuple #[refP none 0 0, .bool false]) ∧ ¬ PreFull L n its) ∨ (PreFull L n its ∧ ∃ v ys, e = .returned (.tuple #[.agg #[.int .i64 (ls : Int), .int .u8 (kd : Int), .int .u32 (ex : Int), v], .bool true]) ∧ NewTxt w' w.heap.size v its ys)) := by
  have HV := Lib.hid hv
  have hl := hk.len
  have HL := Lib.hid hl
  have hb := hv.1
  have HB256 := Lib.hid hb
  obtain ⟨A', c', e, hc1, hc2, -, HC⟩ := hv.open_
  have hcell : Hid (∀ j : Nat, j < 512 → ∃ g off, A0 = some ⟨g, off, none⟩ ∧ g < w.heap.size ∧ w.cell? ⟨g, off + j, none⟩ = some (.int .u8 ((L.getD j 0 : Nat) : Int)) ∧ L.getD j 0 < 256) := Lib.hid (fun j hj => by
    obtain ⟨g', off', e', hg, h1, h2⟩ := HC j (by omega)
    injection e with e1 e2 e3
    have hd : L.getD j 0 = L[j]'(by omega) := by simp [List.getD, hl, hj]
    rw [hd, e1]
    exact ⟨g', off', e', hg, h1, h2⟩)
  have hok : openOk L = true := (open_sum hl hb).2 hk.sum
  have hlt := (lsn_top hl hb).1 hk.lsn
  have hn100 : n ≤ 100 := by rw [hn]; exact hk.cnt
  have hls63 : ls ≤ 9223372036854775807 := by rw [← hls]; exact hk.lsn
  have hex32 : ex < 4294967296 := by
    have h1 := leV_lt ((L.drop 13).take 4) (fun x hx => hb x (List.mem_of_mem_drop (List.mem_of_mem_take hx)))
    have h2 : ((L.drop 13).take 4).length = 4 := by rw [List.length_take, List.length_drop]; omega
    rw [h2, hex] at h1
    exact h1
  obtain ⟨g, off, rfl, hg, z0, -⟩ := hcell.out 0 (by omega)
  have hcl : Hid (∀ j : Nat, j < 512 → w.cell? ⟨g, off + j, none⟩ = some (.int .u8 ((L.getD j 0 : Nat) : Int)) ∧ L.getD j 0 < 256) := Lib.hid (fun j hj => by
    obtain ⟨g', off', e', -, h1, h2⟩ := hcell.out j hj
    injection e' with e'
    injection e' with e3 e4
    subst e3 e4
    exact ⟨h1, h2⟩)
  obtain ⟨p, hp⟩ : ∃ p, p = w.heap.size := ⟨_, rfl⟩
  have hB := Blk.new w 32 #[.int .i64 0, .int .u8 0, .int .u32 0, .slice none 0 0]
  have hw : Below w.heap.size w (w.alloc (.cells #[.int .i64 0, .int .u8 0, .int .u32 0, .slice none 0 0] 32)) := (Below.refl _ _).alloc (Nat.le_refl _) _
  rw [← hp] at hB hw hg
  have HP := Lib.hid hp
  have HBL := Lib.hid hB
  have HW := Lib.hid hw
  have R1 : Hid (RB (w.alloc (.cells #[.int .i64 0, .int .u8 0, .int .u32 0, .slice none 0 0] 32)) (w.alloc (.cells #[.int .i64 0, .int .u8 0, .int .u32 0, .slice none 0 0] 32)).heap.size (.slice (some ⟨g, off, none⟩) 512 c) L) := Lib.hid ((HV.out.alloc (Nat.le_refl _) _).more (by simp))
  obtain ⟨b11, h11⟩ : ∃ b11, b11 = L.getD 11 0 := ⟨_, rfl⟩
  have h127 : ¬ (127 : Int) < (b11 : Int) := by omega
  have hd127 : decide ((127 : Int) < (b11 : Int)) = false := by simpa using h127
  have hn100i : ¬ (100 : Int) < (n : Int) := by omega
  have hdn100 : decide ((100 : Int) < (n : Int)) = false := by simpa using hn100i
  have hwl : IntKind.i64.wrap (ls : Int) = (ls : Int) := by rw [IntKind.wrap_i64]; omega
  have hwe : IntKind.u32.wrap (ex : Int) = (ex : Int) := by rw [IntKind.wrap_u32]; omega
  have hwn : IntKind.i64.wrap (n : Int) = (n : Int) := by rw [IntKind.wrap_i64]; omega
  have HPR := Lib.hid hP
  have H11 := Lib.hid h11
  have HN := Lib.hid hn
  have HKD := Lib.hid hkd
  have HLS := Lib.hid hls
  have HEX := Lib.hid hex
  have HOK := Lib.hid hok
  clear hv hk hl hb HC e hok hlt hB hw h11 hn hkd hls hex hP hcell z0 hp
  go_enter Try.func8, Try.ntmps8
  go_wp2_with fail
  refine (open2_any _ L _ R1.out (by rw [HL.out]; omega)).mono ?_
  rintro e w1 ⟨v1, rfl, ho1, hb1⟩
  rw [HOK.out]
  have hz := hb1.size
  rw [size_alloc_, ← HP.out] at hz
  have hw1 : Below p w w1 := HW.out.trans (hb1.mono (by rw [size_alloc_, HP.out]; omega))
  have hK := HBL.out.below hb1 HBL.out.lt
  have c11 : w1.cell? ⟨g, off + 11, none⟩ = some (.int .u8 (b11 : Int)) := by rw [H11.out]; exact (hw1.cell (p := ⟨g, off + 11, none⟩) hg).trans (hcl.out 11 (by omega)).1
  have c12 : w1.cell? ⟨g, off + 12, none⟩ = some (.int .u8 (kd : Int)) := by rw [HKD.out]; exact (hw1.cell (p := ⟨g, off + 12, none⟩) hg).trans (hcl.out 12 (by omega)).1
  have c17 : w1.cell? ⟨g, off + 17, none⟩ = some (.int .u8 (n : Int)) := by rw [HN.out]; exact (hw1.cell (p := ⟨g, off + 17, none⟩) hg).trans (hcl.out 17 (by omega)).1
  obtain ⟨A1, c1, rfl, -, -, -, -⟩ := ho1.rbn.open_
  obtain ⟨n1, hn1⟩ : ∃ n1, n1 = (openL L).length := ⟨_, rfl⟩
  rw [← hn1]
  have hvp : RB w p (.slice (some ⟨g, off, none⟩) 512 c) L := by rw [HP.out]; exact HV.out
  have RV0 : RB w1 p (.slice (some ⟨g, off, none⟩) 512 c) L := hvp.below hw1
  have RVP := Lib.hid RV0
  have RV : Hid (RB w1.drew w1.drew.heap.size (.slice (some ⟨g, off, none⟩) 512 c) L) := Lib.hid (RB.drew (RV0.more (show p ≤ w1.heap.size by omega)))
  have RV2 : Hid (RB (w1.alloc (.cells #[.int .i64 0, .int .u8 0, .int .u32 0, .slice none 0 0] 32)).drew (w1.alloc (.cells #[.int .i64 0, .int .u8 0, .int .u32 0, .slice none 0 0] 32)).drew.heap.size (.slice (some ⟨g, off, none⟩) 512 c) L) := Lib.hid (RB.drew (RB.more (RB.alloc (w := w1) RV.out (Nat.le_refl _) _) (by simp)))
  have hgw : g < w1.heap.size := by omega
  have c12a : ∀ o, (w1.alloc o).drew.cell? ⟨g, off + 12, none⟩ = some (.int .u8 (kd : Int)) := fun o => (((Below.refl w1.heap.size w1).alloc (Nat.le_refl _) o).drew.cell (p := ⟨g, off + 12, none⟩) hgw).trans c12
  have c12d : w1.drew.cell? ⟨g, off + 12, none⟩ = some (.int .u8 (kd : Int)) := c12
  have hgne : g ≠ w1.heap.size := by omega
  have HK1 := Lib.hid hK
  have HW1 := Lib.hid hw1
  have HZ := Lib.hid hz
  clear ho1 hb1 hz hn1 hK hw1 hvp RV0
  go_wp2_with fail
  have TK1 : True := trivial
  go_region_held3 (fun w' => w'.cell? ⟨g, off + 12, none⟩ = some (.int .u8 (kd : Int))) (first | with_reducible exact c12d | with_reducible exact c12a _ | fail)
    (first
      | (go_at_call 32; clear TK1; refine (refValue_at _ _ L (by first | with_reducible exact RV.out | with_reducible exact RV2.out) 4 8 ls 4 8 (by decide) (by decide) (by rw [HL.out]; omega) (by omega) HLS.out).mono ?_; rintro e7 w7 ⟨rfl, hw7⟩; subst hw7)
      | (go_at_call 32; refine (refValue_at _ _ L (by first | with_reducible exact RV.out | with_reducible exact RV2.out) 13 4 ex 13 4 (by decide) (by decide) (by rw [HL.out]; omega) (by omega) HEX.out).mono ?_; rintro e7 w7 ⟨rfl, hw7⟩; subst hw7))
  all_goals (
    obtain ⟨z, hz⟩ : ∃ z, z = w1.heap.size := ⟨_, rfl⟩
    obtain ⟨W6, hW6⟩ : ∃ W6, W6 = (w1.alloc (.cells #[.int .i64 (ls : Int), .int .u8 (kd : Int), .int .u32 (ex : Int), .slice none 0 0] 32)).drew := ⟨_, rfl⟩
    have hpz : p < z := by rw [hz]; exact Nat.lt_of_lt_of_le (Nat.lt_succ_self p) HZ.out
    have hb6 : Below z w1 W6 := by rw [hW6, hz]; exact ((Below.refl _ _).alloc (Nat.le_refl _) _).drew
    have B6 : Hid (Blk W6 p 32 #[.int .i64 0, .int .u8 0, .int .u32 0, .slice none 0 0]) := Lib.hid (HK1.out.below hb6 hpz)
    have Z6 : Hid (Blk W6 z 32 #[.int .i64 (ls : Int), .int .u8 (kd : Int), .int .u32 (ex : Int), .slice none 0 0]) := Lib.hid (by rw [hW6, hz]; exact (Blk.new _ _ _).drew)
    have HB6 : Hid (Below p w W6) := Lib.hid (HW1.out.trans (hb6.mono (Nat.le_of_lt hpz)))
    have c17z : W6.cell? ⟨g, off + 17, none⟩ = some (.int .u8 (n : Int)) := (hb6.cell (p := ⟨g, off + 17, none⟩) (Nat.lt_trans hg hpz)).trans c17
    obtain ⟨nI, hnI⟩ : ∃ nI, nI = its.length := ⟨_, rfl⟩
    have HNI := Lib.hid hnI
    have hnIn : nI ≤ n := by rw [hnI]; exact HPR.out.len
    rw [← hW6]
    try rw [← hz]
    try rw [← HP.out]
    clear c11 c12 c17 c12d c12a hgw RV RV2 HK1 HZ hb6 hW6 hnI hz
    go_wp2_with fail
    have HR0 : Hid (RL w W6 p z ls kd ex none 0 0 [] its) := Lib.hid ⟨rfl, OK.nil _ _, fun j y l hy => by simp at hy, B6.out, Z6.out, HB6.out, hpz⟩
    clear B6 Z6 HB6
    go_loopw [8, 9] (fun ed i wr => ∃ (k e : Nat) (A : Option Addr) (cr : Nat) (ys : List Sl), k ≤ nI ∧ i = .int .i64 (k : Int) ∧ ed = .int .i64 (e : Int) ∧ Hid (e = 512 - sumTo its k) ∧ Hid (RL w wr p z ls kd ex A k cr ys its)) (fun ed i wr => n - (intOf i).toNat)
    case atStart => exact ⟨0, 512, none, 0, [], Nat.zero_le _, rfl, rfl, Lib.hid (by simp [sumTo]), HR0⟩
    case round =>
      obtain ⟨k, e, A, cr, ys, hkn, rfl, rfl, HE, HR⟩ := hrel
      have HBB : Hid (Below p w wr) := Lib.hid HR.out.bel
      have HBP := Lib.hid HR.out.bp
      have RVB : Hid (RB wr wr.heap.size (.slice (some ⟨g, off, none⟩) 512 c) L) := Lib.hid (((by rw [HP.out]; exact HV.out : RB w p (.slice (some ⟨g, off, none⟩) 512 c) L).below HBB.out).more (Nat.le_of_lt HBP.out.lt))
      by_cases hlt : k < nI
      · -- the slot is right
        have hki : k < its.length := by rw [← HNI.out]; exact hlt
        obtain ⟨it, hit⟩ : ∃ it, it = its[k] := ⟨_, rfl⟩
        have hs := sumTo_succ hki
        rw [← hit] at hs
        have hkn2 : k < n := by omega
        have hit200 : it.length ≤ 200 := by rw [hit]; exact HPR.out.small _ (List.getElem_mem _)
        have hall : sumTo its (k + 1) ≤ (its.map List.length).sum := sumTo_mono
        have hfit := HPR.out.fit
        have hee := HE.out
        obtain ⟨e', he'⟩ : ∃ e', e' = 512 - sumTo its (k + 1) := ⟨_, rfl⟩
        have hitl : e - e' = it.length := by omega
        have he512 : e ≤ 512 := by omega
        have hee' : e' ≤ e := by omega
        have he18 : 18 + 2 * n ≤ e' := by omega
        have E16 : Hid (leV ((L.drop (18 + 2 * k)).take 2) = e') := by
          have h5 := HPR.out.slot k hki
          unfold slotV at h5
          rw [← he'] at h5
          exact Lib.hid h5
        have hpc : piece L e' e = it := by
          unfold piece
          rw [List.drop_take, hitl, he', hit]
          exact HPR.out.item k hki
        have hitk : its[k]? = some it := by rw [List.getElem?_eq_getElem hki, hit]
        have HPC := Lib.hid hpc
        have HIT := Lib.hid hitk
        have HE' := Lib.hid he'
        have hwe1 : IntKind.i64.wrap (e' : Int) = (e' : Int) := by rw [IntKind.wrap_i64]; omega
        have hws : IntKind.i64.wrap ((e : Int) - (e' : Int)) = (e : Int) - (e' : Int) := by rw [IntKind.wrap_i64]; omega
        have d1 : decide ((e : Int) < (e' : Int)) = false := by simp; omega
        have d2 : decide ((e' : Int) < 18 + 2 * (n : Int)) = false := by simp; omega
        have d3 : decide ((200 : Int) < (e : Int) - (e' : Int)) = false := by simp; omega
        have RVD : Hid (RB wr.drew wr.drew.heap.size (.slice (some ⟨g, off, none⟩) 512 c) L) := Lib.hid (RB.drew RVB.out)
        have cz3 : wr.cell? ⟨z, 3, none⟩ = some (.slice A k cr) := HR.out.bz.cell 3
        have hzlt : z < wr.heap.size := HR.out.bz.lt
        clear hs hall hfit hee he' hitl hpc hitk hit hit200
        go_wp2_with ((go_at_call 32; refine (refValue_at _ _ L RVB.out (18 + 2 * k) 2 e' _ _ (by omega) (by rfl) (by rw [HL.out]; omega) (by omega) E16.out).mono ?_; rintro e7 w7 ⟨rfl, hw7⟩; subst w7))
        clear d1 d2 d3 hws hwe1 E16
        go_region_law (first
          | (go_simp; go_at_call 33; refine (piece_any _ L e' e _ RVD.out (by omega) (by omega)).mono ?_; rw [HPC.out]; rintro e8 W1 ⟨v1, rfl, ho1, hb1⟩; have HB1 : Hid (Below wr.heap.size wr W1) := ⟨hb1.os, hb1.tape, hb1.output, hb1.size, hb1.block⟩; obtain ⟨A1, c1, rfl, -, -, -, -⟩ := ho1.rbn.open_; have HO1 : Hid (OB W1 wr.heap.size (slV ((A1, it.length, c1) : Sl)) it) := Lib.hid ho1; have k1 : W1.cell? ⟨z, 3, none⟩ = some (.slice A k cr) := (HB1.out.cell (p := ⟨z, 3, none⟩) hzlt).trans cz3; have HZ1 : Hid (z < W1.heap.size) := Lib.hid (Nat.lt_of_lt_of_le hzlt HB1.out.size); have k1a : (W1.alloc (.cells #[.slice A1 it.length c1] 22)).cell? ⟨z, 3, none⟩ = some (.slice A k cr) := (((Below.refl _ W1).alloc (Nat.le_refl _) _).cell (p := ⟨z, 3, none⟩) HZ1.out).trans k1; clear ho1 hb1)
          | (refine HR.out.arm HB1.out HIT.out HO1.out (by omega) rfl (.tmp 79) (.tmp 84) rfl rfl rfl ?_; intro A' c' w' k3 f3 HALL))
        all_goals (
          go_wp2_with fail
          go_roundw
          case rel => exact ⟨k + 1, e', A', c', _, by omega, by go_num, rfl, HE', HALL⟩
          case measure => simp [intOf]; omega)
      · obtain rfl : k = nI := by omega
        by_cases hkn2 : k < n
        · -- the slot is wrong
          have hst := HPR.out.stop
          rw [← HNI.out] at hst
          have hend : endOf its = e := by rw [HE.out, HNI.out, sumTo_all]; rfl
          rw [hend] at hst
          obtain ⟨e', he'⟩ : ∃ e', e' = slotV L k := ⟨_, rfl⟩
          rw [← he'] at hst
          have hbad : e < e' ∨ e' < 18 + 2 * n ∨ 200 < e - e' := by rcases hst with h | h <;> omega
          have hnf : ¬ PreFull L n its := fun hf => by have := hf.1; rw [← HNI.out] at this; omega
          have HNF := Lib.hid hnf
          have E16 : Hid (leV ((L.drop (18 + 2 * k)).take 2) = e') := by show _ = _; rw [he']; rfl
          have he16 : e' < 65536 := by
            have h1 := leV_lt ((L.drop (18 + 2 * k)).take 2) (fun x hx => HB256.out x (List.mem_of_mem_drop (List.mem_of_mem_take hx)))
            have h2 : ((L.drop (18 + 2 * k)).take 2).length = 2 := by rw [List.length_take, List.length_drop, HL.out]; omega
            rw [h2, E16.out] at h1
            exact h1
          have he512 : e ≤ 512 := by rw [HE.out]; omega
          have hwe1 : IntKind.i64.wrap (e' : Int) = (e' : Int) := by rw [IntKind.wrap_i64]; omega
          have hws : IntKind.i64.wrap ((e : Int) - (e' : Int)) = (e : Int) - (e' : Int) := by rw [IntKind.wrap_i64]; omega
          have HEND := Lib.hid (over_page (w := w) (x0 := .int .i64 0) (x1 := .int .u8 0) (x2 := .int .u32 0) (x3 := .slice none 0 0) (by rw [← HP.out]; exact HBB.out) (Nat.le_of_eq HP.out.symm) HBP.out)
          have q0 : wr.cell? ⟨p, 0, none⟩ = some (.int .i64 0) := HBP.out.cell 0
          have q1 : wr.cell? ⟨p, 1, none⟩ = some (.int .u8 0) := HBP.out.cell 1
          have q2 : wr.cell? ⟨p, 2, none⟩ = some (.int .u32 0) := HBP.out.cell 2
          have q3 : wr.cell? ⟨p, 3, none⟩ = some (.slice none 0 0) := HBP.out.cell 3
          have f0 := HBP.out.frozen 0
          have f1 := HBP.out.frozen 1
          have f2 := HBP.out.frozen 2
          have f3 := HBP.out.frozen 3
          clear hst hend he' hnf
          by_cases t1 : e < e'
          · have t1i : (e : Int) < (e' : Int) := by omega
            have t1d : decide ((e : Int) < (e' : Int)) = true := by simpa using t1i
            clear hbad
            go_wp2_with ((go_at_call 32; refine (refValue_at _ _ L RVB.out (18 + 2 * k) 2 e' _ _ (by omega) (by rfl) (by rw [HL.out]; omega) (by omega) E16.out).mono ?_; rintro e7 w7 ⟨rfl, hw7⟩; subst w7))
            exact ret_pg8 Try.results8 rfl rfl HEND.out.1 rfl ⟨HEND.out.2, .inl ⟨rfl, HNF.out⟩⟩
          · have t1i : ¬ (e : Int) < (e' : Int) := by omega
            have t1d : decide ((e : Int) < (e' : Int)) = false := by simpa using t1i
            by_cases t2 : e' < 18 + 2 * n
            · have t2i : (e' : Int) < 18 + 2 * (n : Int) := by omega
              have t2d : decide ((e' : Int) < 18 + 2 * (n : Int)) = true := by simpa using t2i
              clear hbad
              go_wp2_with ((go_at_call 32; refine (refValue_at _ _ L RVB.out (18 + 2 * k) 2 e' _ _ (by omega) (by rfl) (by rw [HL.out]; omega) (by omega) E16.out).mono ?_; rintro e7 w7 ⟨rfl, hw7⟩; subst w7))
              exact ret_pg8 Try.results8 rfl rfl HEND.out.1 rfl ⟨HEND.out.2, .inl ⟨rfl, HNF.out⟩⟩
            · have t2i : ¬ (e' : Int) < 18 + 2 * (n : Int) := by omega
              have t2d : decide ((e' : Int) < 18 + 2 * (n : Int)) = false := by simpa using t2i
              have t3i : (200 : Int) < (e : Int) - (e' : Int) := by omega
              clear hbad
              go_wp2_with ((go_at_call 32; refine (refValue_at _ _ L RVB.out (18 + 2 * k) 2 e' _ _ (by omega) (by rfl) (by rw [HL.out]; omega) (by omega) E16.out).mono ?_; rintro e7 w7 ⟨rfl, hw7⟩; subst w7))
              exact ret_pg8 Try.results8 rfl rfl HEND.out.1 rfl ⟨HEND.out.2, .inl ⟨rfl, HNF.out⟩⟩
        · -- all slots are right
          obtain rfl : k = n := by omega
          have hee : e ≤ 512 := by rw [HE.out]; omega
          have hge : 18 + 2 * k ≤ e := by
            have h1 := HPR.out.fit
            have h2 := HE.out
            rw [HNI.out, sumTo_all] at h2
            omega
          have hend : endOf its = e := by rw [HE.out, HNI.out, sumTo_all]; rfl
          have HEN := Lib.hid hend
          have hcr : Hid (∀ j : Nat, j < 512 → wr.cell? ⟨g, off + j, none⟩ = some (.int .u8 ((L.getD j 0 : Nat) : Int)) ∧ L.getD j 0 < 256) := Lib.hid (fun j hj => ⟨(HBB.out.cell (p := ⟨g, off + j, none⟩) hg).trans (hcl.out j hj).1, (hcl.out j hj).2⟩)
          clear hend
          go_wp2_with fail
          go_loopw [11] (fun i wq => ∃ j : Nat, 18 + 2 * k ≤ j ∧ j ≤ e ∧ i = .int .i64 (j : Int) ∧ wq = wr ∧ Hid (∀ q, 18 + 2 * k ≤ q → q < j → L[q]? = some 0)) (fun i wq => 512 - (intOf i).toNat)
          case atStart => exact ⟨18 + 2 * k, Nat.le_refl _, hge, by go_num, rfl, Lib.hid (fun q h1 h2 => by omega)⟩
          case round =>
            obtain ⟨j, hj1, hj2, rfl, rfl, HQ⟩ := hrel
            by_cases hje : j < e
            · obtain ⟨y, hy⟩ : ∃ y, y = L.getD j 0 := ⟨_, rfl⟩
              have hcj := (hcr.out j (by omega)).1
              rw [← hy] at hcj
              have hy256 : y < 256 := by rw [hy]; exact (hcr.out j (by omega)).2
              have HY : Hid (L[j]? = some y) := Lib.hid (by
                have hjl : j < L.length := by rw [HL.out]; omega
                rw [hy, List.getElem?_eq_getElem hjl]
                simp [List.getD, hjl])
              have hji : (j : Int) < (e : Int) := by omega
              clear hy
              by_cases hy0 : y = 0
              · subst hy0
                go_wp2_with fail
                go_roundw
                case rel => exact ⟨j + 1, by omega, by omega, by go_num, by first | rfl | trivial, Lib.hid (fun q h1 h2 => by
                  by_cases h : q < j
                  · exact HQ.out q h1 h
                  · obtain rfl : q = j := by omega
                    exact HY.out)⟩
                case measure => simp [intOf]; omega
              · have hyi : ((y : Int) == 0) = false := by simpa using hy0
                have hyi2 : ((y : Int) != 0) = true := by simpa using hy0
                have HNF : Hid (¬ PreFull L k its) := Lib.hid (fun hf => by
                  have := hf.2 j hj1 (by rw [HEN.out]; exact hje)
                  rw [HY.out] at this
                  injection this with this
                  exact hy0 this)
                have HEND := Lib.hid (over_page (w := w) (x0 := .int .i64 0) (x1 := .int .u8 0) (x2 := .int .u32 0) (x3 := .slice none 0 0) (by rw [← HP.out]; exact HBB.out) (Nat.le_of_eq HP.out.symm) HBP.out)
                have q0 : wr.cell? ⟨p, 0, none⟩ = some (.int .i64 0) := HBP.out.cell 0
                have q1 : wr.cell? ⟨p, 1, none⟩ = some (.int .u8 0) := HBP.out.cell 1
                have q2 : wr.cell? ⟨p, 2, none⟩ = some (.int .u32 0) := HBP.out.cell 2
                have q3 : wr.cell? ⟨p, 3, none⟩ = some (.slice none 0 0) := HBP.out.cell 3
                have f0 := HBP.out.frozen 0
                have f1 := HBP.out.frozen 1
                have f2 := HBP.out.frozen 2
                have f3 := HBP.out.frozen 3
                go_wp2_with fail
                exact ret_pg8 Try.results8 rfl rfl HEND.out.1 rfl ⟨HEND.out.2, .inl ⟨rfl, HNF.out⟩⟩
            · obtain rfl : j = e := by omega
              have HFU : Hid (PreFull L k its) := Lib.hid ⟨HNI.out.symm, fun q h1 h2 => HQ.out q h1 (by rw [← HEN.out]; exact h2)⟩
              have HEND := Lib.hid (over_page (w := w) (x0 := .int .i64 (ls : Int)) (x1 := .int .u8 (kd : Int)) (x2 := .int .u32 (ex : Int)) (x3 := .slice A k cr) (by rw [← HP.out]; exact HBB.out) (Nat.le_of_eq HP.out.symm) HBP.out)
              have HTX : Hid (NewTxt ((((wr.setCell ⟨p, 0, none⟩ (.int .i64 (ls : Int))).setCell ⟨p, 1, none⟩ (.int .u8 (kd : Int))).setCell ⟨p, 2, none⟩ (.int .u32 (ex : Int))).setCell ⟨p, 3, none⟩ (.slice A k cr)) w.heap.size (.slice A k cr) its ys) := Lib.hid (by
                have hm : Mod (fun q => q = p) wr ((((wr.setCell ⟨p, 0, none⟩ (.int .i64 (ls : Int))).setCell ⟨p, 1, none⟩ (.int .u8 (kd : Int))).setCell ⟨p, 2, none⟩ (.int .u32 (ex : Int))).setCell ⟨p, 3, none⟩ (.slice A k cr)) :=
                  ((((Mod.refl (fun q => q = p) wr).setCell (p := ⟨p, 0, none⟩) (fun _ => rfl) _).setCell (p := ⟨p, 1, none⟩) (fun _ => rfl) _).setCell (p := ⟨p, 2, none⟩) (fun _ => rfl) _).setCell (p := ⟨p, 3, none⟩) (fun _ => rfl) _
                have hpz := HR.out.pz
                exact ⟨(HR.out.row.mod hm (fun b hb e => by have := (HR.out.row.lt b hb).1; omega)).base (by rw [← HP.out]; omega), by rw [HR.out.len, HNI.out], fun j y l h1 h2 => ((HR.out.item j y l h1 h2).1.mod hm (fun b hb e => by have := ((HR.out.item j y l h1 h2).1.lt b hb).1; omega)).base (by rw [← HP.out]; omega)⟩)
              have q0 : wr.cell? ⟨p, 0, none⟩ = some (.int .i64 0) := HBP.out.cell 0
              have q1 : wr.cell? ⟨p, 1, none⟩ = some (.int .u8 0) := HBP.out.cell 1
              have q2 : wr.cell? ⟨p, 2, none⟩ = some (.int .u32 0) := HBP.out.cell 2
              have q3 : wr.cell? ⟨p, 3, none⟩ = some (.slice none 0 0) := HBP.out.cell 3
              have f0 := HBP.out.frozen 0
              have f1 := HBP.out.frozen 1
              have f2 := HBP.out.frozen 2
              have f3 := HBP.out.frozen 3
              have z0 : wr.cell? ⟨z, 0, none⟩ = some (.int .i64 (ls : Int)) := HR.out.bz.cell 0
              have z1 : wr.cell? ⟨z, 1, none⟩ = some (.int .u8 (kd : Int)) := HR.out.bz.cell 1
              have z2 : wr.cell? ⟨z, 2, none⟩ = some (.int .u32 (ex : Int)) := HR.out.bz.cell 2
              have z3 : wr.cell? ⟨z, 3, none⟩ = some (.slice A k cr) := HR.out.bz.cell 3
              go_wp2_with fail
              exact ret_pg8 Try.results8 rfl rfl HEND.out.1 rfl ⟨HEND.out.2, .inr ⟨HFU.out, _, ys, rfl, HTX.out⟩⟩)
end Go.Proofs.Ytdghanhpeekbhaa
