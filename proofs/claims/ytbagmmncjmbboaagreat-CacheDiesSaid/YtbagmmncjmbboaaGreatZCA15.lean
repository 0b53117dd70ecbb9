/-
  The walk of the pool's Flush.
-/
import Derived.Test.YtbagmmncjmbboaaGreatZCA12
import Derived.Test.YtbagmmncjmbboaaGreatF0
import Derived.Test.YtbagmmncjmbboaaGreatZN1
import Derived.Test.YtbagmmncjmbboaaGreatZV15
import Derived.Test.YtbagmmncjmbboaaGreatD3
namespace Go.Proofs.YtbagmmncjmbboaaGreat
open Go.RowKit Go.Maps
set_option linter.unusedVariables false

/-- The pool behind the clean of these pages, as far as it goes well. -/
def CP.cleanAll (c : CP) : List Int → CP × Int
  | [] => (c, 0)
  | n :: r => match idx c.fs n with
    | none => CP.cleanAll c r
    | some i => if (c.clean i).2 = 0 then CP.cleanAll (c.clean i).1 r else c.clean i

/-- The pool behind Flush's sync, and what it answers. -/
def CP.syncC (c : CP) : CP × Int :=
  if c.o.uns = false then (c, 0)
  else if c.s.syncE = 0 then ({ c with s := c.s.sync, o := { c.o with uns := false } }, 0)
  else ({ c with s := c.s.sync, o := { c.o with dead := true } }, c.s.syncE)

/-- The pool behind Flush, and what it answers. -/
def CP.flush (c : CP) : CP × Int :=
  if c.o.dead = true then (c, 91)
  else if (c.cleanAll (numsOf c.fs)).2 = 0 then (c.cleanAll (numsOf c.fs)).1.syncC
  else c.cleanAll (numsOf c.fs)

theorem clean_steps {w : World} {I : PI} {Q : Nat → Prop} {c : CP} (h : PoolAt w I Q c) (i : Nat) : (c.clean i).1.s.steps ≤ c.s.steps + 4098 := by
  have hok := h.wal.lg.ok
  have hc := hok.count.2
  cases hx : c.fs[i]? with
  | none =>
    have e : c.clean i = (c, 0) := by unfold CP.clean; rw [hx]
    rw [e]; dsimp only; omega
  | some x =>
    cases hd : x.1.dirty with
    | false => rw [clean_not hx hd]; dsimp only; omega
    | true =>
      cases hp : x.1.page with
      | none => rw [clean_free hx hp]; dsimp only; omega
      | some pg =>
        rw [clean_yes hx hp hd]
        dsimp only
        have := cleanP_steps hok ((c.o.base : Int) + x.1.num) pg c.s
        omega

theorem rowAt {w : World} {B n c : Nat} {A : Option Addr} {l : List Int} (h : RI w B (.slice A n c) l) {k : Nat} {x : Int} (hk : l[k]? = some x) : ∃ b o, A = some ⟨b, o, none⟩ ∧ w.cell? ⟨b, o + k, none⟩ = some (.int .i64 x) := by
  obtain ⟨A', c', e, _, _, _, HA⟩ := h.open_
  injection e with e1 e2 e3
  subst e1
  have hl := (List.getElem?_eq_some_iff.1 hk).1
  obtain ⟨b, o, rfl, hb, hx⟩ := HA.out k hl
  have := hx 0 (.int .i64 l[k]) rfl
  have e : l[k] = x := (List.getElem?_eq_some_iff.1 hk).2
  rw [e] at this
  exact ⟨b, o, rfl, by simpa using this⟩

section

variable {w w' : World} {I : PI} {Q : Nat → Prop} {c : CP}

/-- A call of the pool's disk. -/
theorem PoolAt.disk {s' : DS} (h : PoolAt w I Q c) (hd : DiskAt w' I.p I.sb I.mb I.pl s') (hm : Mod (Own I.p I.sb I.mb) w w') : PoolAt w' I Q { c with s := s' } ∧ Mod I.Turn w w' :=
  ⟨h.moved hm (fun k _ e => .inl (.inl e)) ⟨hd, h.wal.log hm, h.wal.sep, h.wal.pl⟩ (fun k e => .inl e) (fun k e => .inl e), hm.mono fun k _ e => .inl (.inl e)⟩

/-- The pool's own numbers changed. -/
theorem PoolAt.own {o' : PO} {j : Nat} {u : Value} (h : PoolAt w I Q c) (ho : (poC I.p I.g I.fb I.mp I.nf c.o).setIfInBounds j u = poC I.p I.g I.fb I.mp I.nf o') (hb : o'.base = c.o.base) (hc : o'.count = c.o.count) (ht : c.o.turn ≤ o'.turn) :
    PoolAt (w.setCell ⟨I.q, j, none⟩ u) I Q { c with o := o' } ∧ Mod I.Turn w (w.setCell ⟨I.q, j, none⟩ u) := by
  have hm := mod_set1 w I.q j u
  have hmT : Mod I.Turn w (w.setCell ⟨I.q, j, none⟩ u) := hm.mono fun k _ e => .inr (.inl e)
  have hq := h.blk.set_ j u
  rw [ho] at hq
  refine ⟨h.turned hmT (h.wal.apart hm fun k e => by subst e; exact h.aq) hq (Blk.mod h.frs hm (fun e => h.ne.1 e.symm)) (h.map.mod hm (fun e => h.ne.2.1 e.symm)) rfl h.uniq hb hc ht ?_, hmT⟩
  intro i x hx
  exact .inl ⟨x, hx, ⟨rfl, rfl, rfl⟩, fun _ => ⟨rfl, rfl⟩, .inl rfl, .inl rfl⟩

set_option maxRecDepth 100000 in
set_option maxHeartbeats 8000000 in
theorem Flush_pool (h : PoolAt w I Q c) (hst : c.s.steps < 999999999000000) :
    Calls Tryz.prog 25 #[.pointer (some ⟨I.q, 0, none⟩)] w fun e w' => e = .returned (.int .i64 c.flush.2) ∧ PoolAt w' I Q c.flush.1 ∧ Mod I.Turn w w' := by
  have c8 := h.c8
  have HNUM := Lib.hid (numbers_pool h)
  have H := Lib.hid h
  have HST := Lib.hid hst
  obtain ⟨dd, hdd⟩ : ∃ dd, dd = c.o.dead := ⟨_, rfl⟩
  rw [← hdd] at c8
  have HDD := Lib.hid hdd
  clear h hst hdd
  cases dd with
  | true =>
    go_enter Tryz.func25, Tryz.ntmps25
    go_wp2_with fail
    go_ret
    have e : c.flush = (c, 91) := by unfold CP.flush; rw [if_pos HDD.out.symm]
    rw [e]
    exact ⟨rfl, H.out, Mod.refl _ _⟩
  | false =>
    have HE : Hid (c.flush = if (c.cleanAll (numsOf c.fs)).2 = 0 then (c.cleanAll (numsOf c.fs)).1.syncC else c.cleanAll (numsOf c.fs)) := Lib.hid (by unfold CP.flush; rw [← HDD.out]; simp)
    obtain ⟨ns, hns⟩ : ∃ ns, ns = numsOf c.fs := ⟨_, rfl⟩
    have HNS : Hid (∀ x ∈ ns, (idx c.fs x).isSome = true ∧ I64 x) := Lib.hid (by
      intro x hx
      rw [hns] at hx
      have h1 := mem_numsOf.1 hx
      exact ⟨h1, ((H.out.held x).1 (keys_mem.2 h1)).1⟩)
    have HLN : Hid (ns.length ≤ 64) := Lib.hid (by rw [hns, (numsOf_perm c.fs).length_eq]; have := keys_len c.fs; have := H.out.num; have := H.out.nf; omega)
    rw [← hns] at HE HNUM
    clear hns
    go_enter Tryz.func25, Tryz.ntmps25
    go_wp2_with fail
    refine HNUM.out.mono ?_
    rintro e w1 ⟨v, rfl, ho, hb⟩
    obtain ⟨A, cc, rfl, -, -, -, -⟩ := (ho.rk encI_len (Nat.le_refl _)).open_
    obtain ⟨n, hn⟩ : ∃ n, n = ns.length := ⟨_, rfl⟩
    rw [← hn] at ho ⊢
    have HO := Lib.hid ho
    have HB1 := Lib.hid hb
    have HN := Lib.hid hn
    have hn64 : n ≤ 64 := by have := HLN.out; omega
    clear ho hb hn HNUM
    go_wp2_with fail
    go_loopw [14] (fun i wr => ∃ (k : Nat) (ck : CP), k ≤ n ∧ i = .int .i64 (k : Int) ∧ Hid (PoolAt wr I Q ck) ∧ Hid (∀ a, idx ck.fs a = idx c.fs a) ∧ Hid (ck.cleanAll (ns.drop k) = c.cleanAll ns) ∧ Hid (ck.s.steps ≤ c.s.steps + k * 4098) ∧ Hid (Mod I.Turn w1 wr)) (fun i wr => n - (intOf i).toNat)
    case atStart => exact ⟨0, c, Nat.zero_le _, rfl, Lib.hid (H.out.below HB1.out), Lib.hid (fun _ => rfl), Lib.hid (by rw [List.drop_zero]), Lib.hid (by omega), Lib.hid (Mod.refl _ _)⟩
    case round =>
      obtain ⟨k, ck, hk, rfl, HK, HI, HC, HS, HM⟩ := hrel
      by_cases hlt : k < n
      · obtain ⟨x, hx⟩ : ∃ x, ns[k]? = some x := ⟨_, List.getElem?_eq_getElem (by rw [← HN.out]; exact hlt)⟩
        have hxm := HNS.out x (List.mem_of_getElem? hx)
        obtain ⟨i, hi0⟩ := Option.isSome_iff_exists.1 hxm.1
        have hi : idx ck.fs x = some i := by rw [HI.out]; exact hi0
        obtain ⟨y, hy, -⟩ := idx_some hi
        have hx64 := hxm.2
        have hown : OK encI 1 3 wr w.heap.size (.slice A n cc) ns := HO.out.mod HM.out (fun b hb e => by have h1 := (HO.out.lt b hb).1; have h2 := H.out.lt b (PI.turn_core e); omega)
        obtain ⟨rb, ro, rfl, hcell⟩ := rowAt (hown.rk encI_len (Nat.le_refl _)) hx
        have d5 := HK.out.c5
        have HMP := Lib.hid HK.out.map
        have HV : Hid ((holdF I.fb ck.fs x).getD (.pointer none) = .pointer (some ⟨I.fb, i * 6, none⟩)) := Lib.hid (by unfold holdF; rw [hi]; rfl)
        have HY := Lib.hid hy
        have HID := Lib.hid hi
        have HX := Lib.hid hx
        clear hx hxm hi0 hi hy hown
        go_wp2_with (at_lookup; refine wpList_lookG1 (X := kI) rfl _ _ _ rfl _ Tryz.underlying111 (zeroP _) isPtr_nil I.mp I.nf rfl HMP.out x rfl hx64 _ HV.out ?_)
        refine (clean_pool HK.out HY.out (by have := HST.out; have := HS.out; omega)).mono ?_
        rintro e w2 ⟨rfl, h2, hm2⟩
        have hstp := clean_steps HK.out i
        have hix := clean_idx HK.out i
        have hdrop : ns.drop k = x :: ns.drop (k + 1) := by
          have := List.drop_eq_getElem_cons (i := k) (l := ns) (by rw [← HN.out]; exact hlt)
          rw [this, (List.getElem?_eq_some_iff.1 HX.out).2]
        have hcl : ck.cleanAll (ns.drop k) = if (ck.clean i).2 = 0 then (ck.clean i).1.cleanAll (ns.drop (k + 1)) else ck.clean i := by
          rw [hdrop]; show (match idx ck.fs x with | none => _ | some i => _) = _; rw [HID.out]
        rw [HC.out] at hcl
        obtain ⟨c2, k2, hc2⟩ : ∃ c2 k2, ck.clean i = (c2, k2) := ⟨_, _, rfl⟩
        rw [hc2] at h2 hstp hix hcl ⊢
        dsimp only at h2 hstp hix hcl ⊢
        have H2 := Lib.hid h2
        have HM2 : Hid (Mod I.Turn w1 w2) := Lib.hid (HM.out.trans' hm2)
        have HST2 : Hid (c2.s.steps ≤ c.s.steps + (k + 1) * 4098) := Lib.hid (by have := HS.out; omega)
        have HIX : Hid (∀ a, idx c2.fs a = idx c.fs a) := Lib.hid (fun a => by rw [hix, HI.out])
        have HCL := Lib.hid hcl
        clear h2 hm2 hstp hix hdrop hcl hc2
        by_cases h0 : k2 = 0
        · subst h0
          have HC2 : Hid (c2.cleanAll (ns.drop (k + 1)) = c.cleanAll ns) := Lib.hid (by rw [HCL.out, if_pos rfl])
          clear HCL
          go_wp2_with fail
          go_roundw
          case rel => exact ⟨k + 1, c2, by omega, by go_num, H2, HIX, HC2, HST2, HM2⟩
          case measure => simp [intOf]; omega
        · have e2 : (k2 != 0) = true := by simpa using h0
          have HR : Hid (c.cleanAll ns = (c2, k2)) := Lib.hid (by rw [HCL.out, if_neg h0])
          have H0 := Lib.hid h0
          clear h0 HCL
          go_wp2_with fail
          go_ret
          have e : c.flush = (c2, k2) := by rw [HE.out, HR.out, if_neg H0.out]
          rw [e]
          exact ⟨rfl, H2.out, (Mod.of_below HB1.out I.Turn).trans' HM2.out⟩
      · obtain rfl : k = n := by omega
        have HR : Hid (c.cleanAll ns = (ck, 0)) := Lib.hid (by rw [← HC.out, List.drop_eq_nil_of_le (by rw [← HN.out]; exact Nat.le_refl _)]; rfl)
        have HE2 : Hid (c.flush = ck.syncC) := Lib.hid (by rw [HE.out, HR.out, if_pos rfl])
        clear HC HR HE
        have d7 := HK.out.c7
        obtain ⟨un, hun⟩ : ∃ un, un = ck.o.uns := ⟨_, rfl⟩
        rw [← hun] at d7
        have HUN := Lib.hid hun
        clear hun
        have HMW : Hid (Mod I.Turn w wr) := Lib.hid ((Mod.of_below HB1.out I.Turn).trans' HM.out)
        cases un with
        | false =>
          go_wp2_with fail
          go_ret
          have e : c.flush = (ck, 0) := by rw [HE2.out]; unfold CP.syncC; rw [if_pos HUN.out.symm]
          rw [e]
          exact ⟨rfl, HK.out, HMW.out⟩
        | true =>
          have d0 := HK.out.c0
          go_wp2_with fail
          refine (Sync_any wr I.p I.sb I.mb I.pl ck.s HK.out.wal.dk (by have := HST.out; have := HS.out; omega)).mono ?_
          rintro e w2 ⟨rfl, hd2, hm2⟩
          obtain ⟨se, hse⟩ : ∃ se, se = ck.s.syncE := ⟨_, rfl⟩
          have hp2 := HK.out.disk hd2 hm2
          have HP2 := Lib.hid hp2.1
          have HM2 := Lib.hid (HMW.out.trans' hp2.2)
          have HSE := Lib.hid hse
          rw [← hse]
          clear hd2 hm2 hp2 hse
          by_cases h0 : se = 0
          · subst h0
            obtain ⟨r7, c7⟩ : ∃ r, w2.cell? ⟨I.q, 7, none⟩ = some r := ⟨_, HP2.out.c7⟩
            have f7 : w2.frozen? ⟨I.q, 7, none⟩ = false := HP2.out.blk.frozen 7
            go_wp2_with fail
            go_ret
            have hend := HP2.out.own (o' := { ck.o with uns := false }) (j := 7) (u := .bool false) rfl rfl rfl (Nat.le_refl _)
            have e : c.flush = ({ ck with s := ck.s.sync, o := { ck.o with uns := false } }, 0) := by rw [HE2.out]; unfold CP.syncC; rw [if_neg (by rw [← HUN.out]; simp), if_pos HSE.out.symm]
            rw [e]
            exact ⟨rfl, hend.1, HM2.out.trans' hend.2⟩
          · have e2 : (se != 0) = true := by simpa using h0
            have H0 := Lib.hid h0
            clear h0
            obtain ⟨r8, c8⟩ : ∃ r, w2.cell? ⟨I.q, 8, none⟩ = some r := ⟨_, HP2.out.c8⟩
            have f8 : w2.frozen? ⟨I.q, 8, none⟩ = false := HP2.out.blk.frozen 8
            go_wp2_with fail
            go_ret
            have hend := HP2.out.own (o' := { ck.o with dead := true }) (j := 8) (u := .bool true) rfl rfl rfl (Nat.le_refl _)
            have e : c.flush = ({ ck with s := ck.s.sync, o := { ck.o with dead := true } }, se) := by rw [HE2.out]; unfold CP.syncC; rw [if_neg (by rw [← HUN.out]; simp), if_neg (by rw [← HSE.out]; exact H0.out), ← HSE.out]
            rw [e]
            exact ⟨rfl, hend.1, HM2.out.trans' hend.2⟩
end
end Go.Proofs.YtbagmmncjmbboaaGreat

/-
  The walks of the pool's Dirty and Pins.
-/
namespace Go.Proofs.YtbagmmncjmbboaaGreat
open Go.RowKit Go.Maps
set_option linter.unusedVariables false

theorem etNs : ElemT 33 3 1 8 := elemT_of (z := .int .i64 0) Tryz.underlying33 (by kernel_rfl) (by kernel_rfl) (by decide) (by decide) (by decide)

theorem etDr : ElemT 60 69 2 16 := elemT_of (z := .agg #[.int .i64 0, .int .i64 0]) Tryz.underlying60 (by kernel_rfl) (by kernel_rfl) (by decide) (by decide) (by decide)

/-- A dirty page as it is told: its number, the LSN. -/
def encDr (x : Int × Int) : List Value := [.int .i64 x.1, .int .i64 x.2]

theorem encDr_len (x : Int × Int) : (encDr x).length = 2 := rfl

theorem encDr_one (x : Int × Int) : ∀ u ∈ encDr x, u.oneCell' = true := by
  intro u hu
  unfold encDr at hu
  simp only [List.mem_cons, List.not_mem_nil, or_false] at hu
  rcases hu with rfl | rfl <;> rfl

theorem encI_oneC (x : Int) : ∀ u ∈ encI x, u.oneCell' = true := by
  intro u hu
  unfold encI at hu
  simp only [List.mem_cons, List.not_mem_nil, or_false] at hu
  subst hu; rfl

theorem oneDr (w : World) (x : Int × Int) (t : TypeId) : ∀ (j : Nat) u, (encDr x)[j]? = some u → (w.alloc (.cells #[.int .i64 x.1, .int .i64 x.2] t)).cell? ⟨w.heap.size, j, none⟩ = some u := by
  intro j u hu; rw [(Blk.new w _ _).cell j]; simpa [encDr] using hu

theorem oneNs (w : World) (y : Int) (t : TypeId) : ∀ (j : Nat) u, (encI y)[j]? = some u → (w.alloc (.cells #[.int .i64 y] t)).cell? ⟨w.heap.size, j, none⟩ = some u := by
  intro j u hu; rw [(Blk.new w _ _).cell j]; simpa [encI] using hu

section

variable {α : Type} {enc : α → List Value} {k bytes t E : Nat} {w : World} {base : Nat} {v : Value} {xs : List α} {y : α}

theorem run_appB (et : ElemT t E k bytes) (hk : ∀ x, (enc x).length = k) (h1 : ∀ x, ∀ u ∈ enc x, u.oneCell' = true) (ty : TypeId) (hown : OK enc k E w base v xs) (h : Nat)
    (hc : ∀ (j : Nat) u, (enc y)[j]? = some u → w.cell? ⟨h, j, none⟩ = some u) (hlen : xs.length + 1 ≤ 20000000000000) (hb : (xs.length + 1) * bytes ≤ 140737488355328) (hb2 : (xs.length + 1) * k ≤ 140737488355328) (hbase : base ≤ w.heap.size) :
    ∃ v' w', (Builtin.append_ #[t, t] ty #[v, .slice (some ⟨h, 0, none⟩) 1 1]).run Tryz.prog w = .ok v' w' ∧ OK enc k E w' base v' (xs ++ [y]) ∧ w.grownBy w' v.ownBlock ∧ (v'.ownBlock = v.ownBlock ∨ v'.ownBlock = some w.heap.size) := by
  obtain ⟨i, z, hi, hz0, hz1, hz2, hz3⟩ := et.info
  obtain ⟨o1, o2⟩ := hown
  obtain ⟨v', w', hrun, h2, h3, _, h5⟩ := run_append_own_at (P := Tryz.prog) w base t ty E i z k bytes et.under hi hz0 hz1 hz2 hz3 et.kpos v _ _ o2 ⟨h, 0, none⟩ 1 1 (enc y) (by simp [hk]) (by
      intro j u hu
      have : (⟨h, 0, none⟩ : Addr).add j = ⟨h, j, none⟩ := by unfold Addr.add; split <;> simp_all
      rw [this]; exact hc j u hu) (h1 y) (by simp only [maxLen]; omega) (by omega) hbase
  refine ⟨v', w', hrun, ⟨?_, by rw [List.length_append, List.flatMap_append]; simpa using h2⟩, h3, h5⟩
  rw [List.length_append, List.length_singleton]
  exact hb2

/-- 'out = append(out, y)', of long rows. -/
theorem wpList_appB {ops : Array Oper} {rest : List Oper} {o : Oper} {a : Act} {Q : Exit → Act → World → Prop} (et : ElemT t E k bytes) (hk : ∀ x, (enc x).length = k) (h1 : ∀ x, ∀ u ∈ enc x, u.oneCell' = true) (hgd : o.guard = none) (s x : Operand)
    (ho : o.op = .call { callee := .builtin .append, args := #[s, x], argTypes := #[t, t] })
    (hs : a.eval s = v) (hown : OK enc k E w base v xs) (h : Nat) (hx : a.eval x = .slice (some ⟨h, 0, none⟩) 1 1)
    (hc : ∀ (j : Nat) u, (enc y)[j]? = some u → w.cell? ⟨h, j, none⟩ = some u) (hlen : xs.length + 1 ≤ 20000000000000) (hb : (xs.length + 1) * bytes ≤ 140737488355328) (hb2 : (xs.length + 1) * k ≤ 140737488355328) (hbase : base ≤ w.heap.size)
    (hK : ∀ v' w', OK enc k E w' base v' (xs ++ [y]) → w.grownBy w' v.ownBlock → (v'.ownBlock = v.ownBlock ∨ v'.ownBlock = some w.heap.size) → wpList Tryz.prog ops Q rest (a.put o.dst v') w') : wpList Tryz.prog ops Q (o :: rest) a w := by
  obtain ⟨v', w', hrun, h2, h3, h4⟩ := run_appB et hk h1 o.type hown h hc hlen hb hb2 hbase
  refine wpList_plain hgd fun _ hK' => ?_
  unfold Oper.wp execOp
  simp only [ho, resolve, invoke, builtin, Sem.run_bind, Sem.run_pure, Result.andThen_ok, List.map_toArray, List.map_cons, List.map_nil, hs, hx, hrun]
  exact hK' _ _ (hK v' w' h2 h3 h4)
end

/-- The dirty pages among these. -/
def dirtyL (fs : List (Fr × FrM)) (ns : List Int) : List (Int × Int) := ns.filterMap fun n => (dirtOf fs n).map fun r => (n, r)

/-- These pages, each as often as it is pinned. -/
def pinsL (fs : List (Fr × FrM)) (ns : List Int) : List Int := ns.flatMap fun n => List.replicate (pinsOf fs n) n

theorem dirtyL_len (fs : List (Fr × FrM)) (ns : List Int) : (dirtyL fs ns).length ≤ ns.length := List.length_filterMap_le _ _

theorem take_snoc {α : Type} {l : List α} {k : Nat} {x : α} (h : l[k]? = some x) : l.take (k + 1) = l.take k ++ [x] := by
  obtain ⟨hk, e⟩ := List.getElem?_eq_some_iff.1 h
  rw [List.take_succ_eq_append_getElem hk, e]

theorem dirtyL_snoc (fs : List (Fr × FrM)) {ns : List Int} {k : Nat} {x : Int} (h : ns[k]? = some x) : dirtyL fs (ns.take (k + 1)) = dirtyL fs (ns.take k) ++ (match dirtOf fs x with | none => [] | some r => [(x, r)]) := by
  unfold dirtyL
  rw [take_snoc h, List.filterMap_append]
  congr 1
  cases hd : dirtOf fs x <;> simp [hd]

theorem pinsL_snoc (fs : List (Fr × FrM)) {ns : List Int} {k : Nat} {x : Int} (h : ns[k]? = some x) : pinsL fs (ns.take (k + 1)) = pinsL fs (ns.take k) ++ List.replicate (pinsOf fs x) x := by
  unfold pinsL
  rw [take_snoc h, List.flatMap_append]
  simp

theorem pinsL_len (fs : List (Fr × FrM)) (ns : List Int) (k : Nat) : (pinsL fs (ns.take k)).length ≤ (pinsL fs ns).length := by
  have h : pinsL fs ns = pinsL fs (ns.take k) ++ pinsL fs (ns.drop k) := by unfold pinsL; rw [← List.flatMap_append, List.take_append_drop]
  rw [h, List.length_append]; omega

section

variable {w w' : World} {I : PI} {Q : Nat → Prop} {c : CP}

set_option maxRecDepth 100000 in
set_option maxHeartbeats 8000000 in
theorem Dirty_pool (h : PoolAt w I Q c) :
    Calls Tryz.prog 26 #[.pointer (some ⟨I.q, 0, none⟩)] w fun e w' => ∃ v, e = .returned v ∧ OK encDr 2 69 w' w.heap.size v (dirtyL c.fs (numsOf c.fs)) ∧ Below w.heap.size w w' := by
  have HNUM := Lib.hid (numbers_pool h)
  have H := Lib.hid h
  obtain ⟨ns, hns⟩ : ∃ ns, ns = numsOf c.fs := ⟨_, rfl⟩
  have HNS : Hid (∀ x ∈ ns, (idx c.fs x).isSome = true ∧ I64 x) := Lib.hid (by
    intro x hx
    rw [hns] at hx
    have h1 := mem_numsOf.1 hx
    exact ⟨h1, ((H.out.held x).1 (keys_mem.2 h1)).1⟩)
  have HLN : Hid (ns.length ≤ 64) := Lib.hid (by rw [hns, (numsOf_perm c.fs).length_eq]; have := keys_len c.fs; have := H.out.num; have := H.out.nf; omega)
  rw [← hns] at HNUM ⊢
  clear h hns
  go_enter Tryz.func26, Tryz.ntmps26
  go_wp2_with fail
  refine HNUM.out.mono ?_
  rintro e w1 ⟨v, rfl, ho, hb⟩
  obtain ⟨A, cc, rfl, -, -, -, -⟩ := (ho.rk encI_len (Nat.le_refl _)).open_
  obtain ⟨n, hn⟩ : ∃ n, n = ns.length := ⟨_, rfl⟩
  rw [← hn] at ho ⊢
  have HO := Lib.hid ho
  have HB1 := Lib.hid hb
  have HN := Lib.hid hn
  have hn64 : n ≤ 64 := by have := HLN.out; omega
  clear ho hb hn HNUM
  go_wp2_with fail
  go_loopw [3, 10] (fun t i wr => ∃ k : Nat, k ≤ n ∧ i = .int .i64 (k : Int) ∧ Hid (Below w1.heap.size w1 wr) ∧ Hid (OK encDr 2 69 wr w1.heap.size t (dirtyL c.fs (ns.take k)))) (fun _ i wr => n - (intOf i).toNat)
  case atStart => exact ⟨0, Nat.zero_le _, rfl, Lib.hid (Below.refl _ _), Lib.hid (OK.nil _ _)⟩
  case round =>
    obtain ⟨k, hk, rfl, HB, HD⟩ := hrel
    by_cases hlt : k < n
    · obtain ⟨x, hx⟩ : ∃ x, ns[k]? = some x := ⟨_, List.getElem?_eq_getElem (by rw [← HN.out]; exact hlt)⟩
      have hxm := HNS.out x (List.mem_of_getElem? hx)
      obtain ⟨i, hi⟩ := Option.isSome_iff_exists.1 hxm.1
      obtain ⟨y, hy, hat⟩ := idx_some hi
      have hx64 := hxm.2
      have HKP : Hid (PoolAt wr I Q c) := Lib.hid ((H.out.below HB1.out).below HB.out)
      have hown : OK encI 1 3 wr w.heap.size (.slice A n cc) ns := HO.out.below HB.out
      obtain ⟨rb, ro, rfl, hcell⟩ := rowAt (hown.rk encI_len (Nat.le_refl _)) hx
      have d5 := HKP.out.c5
      have HMP := Lib.hid HKP.out.map
      have HV : Hid ((holdF I.fb c.fs x).getD (.pointer none) = .pointer (some ⟨I.fb, i * 6, none⟩)) := Lib.hid (by unfold holdF; rw [hi]; rfl)
      obtain ⟨d, hd⟩ : ∃ d, d = y.1.dirty := ⟨_, rfl⟩
      obtain ⟨rc, hrc⟩ : ∃ rc, rc = y.1.recl := ⟨_, rfl⟩
      have k3 : wr.cell? ⟨I.fb, i * 6 + 3, none⟩ = some (.bool d) := by rw [hd]; exact HKP.out.frs.cell hy 3 _ rfl
      have k4 : wr.cell? ⟨I.fb, i * 6 + 4, none⟩ = some (.int .i64 rc) := by rw [hrc]; exact HKP.out.frs.cell hy 4 _ rfl
      have HDI : Hid (dirtOf c.fs x = if d = true then some rc else none) := Lib.hid (by unfold dirtOf; rw [fr_of H.out.uniq hy hat, hd, hrc]; rfl)
      have HSN := Lib.hid (dirtyL_snoc c.fs hx)
      have HLD : Hid ((dirtyL c.fs (ns.take k)).length ≤ 64) := Lib.hid (by have h1 := dirtyL_len c.fs (ns.take k); have h2 : (ns.take k).length ≤ ns.length := List.length_take_le' _ _; have h3 := HLN.out; omega)
      have hz := HB.out.size
      have HLo := Lib.hid HD.out.lt
      clear hx hxm hi hy hat hown hd hrc
      cases d with
      | true =>
        go_wp2_with (first
          | (at_lookup; refine wpList_lookG1 (X := kI) rfl _ _ _ rfl _ Tryz.underlying111 (zeroP _) isPtr_nil I.mp I.nf rfl HMP.out x rfl hx64 _ HV.out ?_)
          | (at_builtin; refine wpList_appB etDr encDr_len encDr_one (y := (x, rc)) rfl _ _ rfl rfl (HD.out.alloc _) wr.heap.size rfl (oneDr wr (x, rc) _) (by have := HLD.out; omega) (by have := HLD.out; omega) (by have := HLD.out; omega) (by simp; omega) ?_; intro v' w5 ho5 hg5 hb5; have HO5 := Lib.hid ho5; have HG5 := Lib.hid hg5; clear ho5 hg5 hb5))
        go_roundw
        case rel =>
          refine ⟨k + 1, by omega, by go_num, Lib.hid ((HB.out.alloc (by omega) _).grown HG5.out (by simp; omega) (fun q hq => (HLo.out q hq).1)), Lib.hid ?_⟩
          rw [HSN.out, HDI.out]; exact HO5.out
        case measure => simp [intOf]; omega
      | false =>
        go_wp2_with (at_lookup; refine wpList_lookG1 (X := kI) rfl _ _ _ rfl _ Tryz.underlying111 (zeroP _) isPtr_nil I.mp I.nf rfl HMP.out x rfl hx64 _ HV.out ?_)
        go_roundw
        case rel =>
          refine ⟨k + 1, by omega, by go_num, HB, Lib.hid ?_⟩
          rw [HSN.out, HDI.out]
          simpa using HD.out
        case measure => simp [intOf]; omega
    · obtain rfl : k = n := by omega
      go_wp2_with fail
      go_ret
      have e : ns.take k = ns := by rw [HN.out, List.take_length]
      have h1 := HD.out
      rw [e] at h1
      have hz := HB1.out.size
      exact ⟨_, rfl, h1.base hz, HB1.out.trans (HB.out.mono hz)⟩

set_option maxRecDepth 100000 in
set_option maxHeartbeats 8000000 in
theorem Pins_pool (h : PoolAt w I Q c) (hp : (pinsL c.fs (numsOf c.fs)).length ≤ 10000000000000) (htn : c.o.turn < 1000000000000000) :
    Calls Tryz.prog 16 #[.pointer (some ⟨I.q, 0, none⟩)] w fun e w' => ∃ v, e = .returned v ∧ OK encI 1 3 w' w.heap.size v (pinsL c.fs (numsOf c.fs)) ∧ Below w.heap.size w w' := by
  have HNUM := Lib.hid (numbers_pool h)
  have H := Lib.hid h
  obtain ⟨ns, hns⟩ : ∃ ns, ns = numsOf c.fs := ⟨_, rfl⟩
  have HNS : Hid (∀ x ∈ ns, (idx c.fs x).isSome = true ∧ I64 x) := Lib.hid (by
    intro x hx
    rw [hns] at hx
    have h1 := mem_numsOf.1 hx
    exact ⟨h1, ((H.out.held x).1 (keys_mem.2 h1)).1⟩)
  have HLN : Hid (ns.length ≤ 64) := Lib.hid (by rw [hns, (numsOf_perm c.fs).length_eq]; have := keys_len c.fs; have := H.out.num; have := H.out.nf; omega)
  rw [← hns] at HNUM hp ⊢
  have HPL := Lib.hid hp
  have HTN := Lib.hid htn
  clear h hns hp htn
  go_enter Tryz.func16, Tryz.ntmps16
  go_wp2_with fail
  refine HNUM.out.mono ?_
  rintro e w1 ⟨v, rfl, ho, hb⟩
  obtain ⟨A, cc, rfl, -, -, -, -⟩ := (ho.rk encI_len (Nat.le_refl _)).open_
  obtain ⟨n, hn⟩ : ∃ n, n = ns.length := ⟨_, rfl⟩
  rw [← hn] at ho ⊢
  have HO := Lib.hid ho
  have HB1 := Lib.hid hb
  have HN := Lib.hid hn
  have hn64 : n ≤ 64 := by have := HLN.out; omega
  clear ho hb hn HNUM
  go_wp2_with fail
  go_loopw [3, 9] (fun t i wr => ∃ k : Nat, k ≤ n ∧ i = .int .i64 (k : Int) ∧ Hid (Below w1.heap.size w1 wr) ∧ Hid (OK encI 1 3 wr w1.heap.size t (pinsL c.fs (ns.take k)))) (fun _ i wr => n - (intOf i).toNat)
  case atStart => exact ⟨0, Nat.zero_le _, rfl, Lib.hid (Below.refl _ _), Lib.hid (OK.nil _ _)⟩
  case round =>
    obtain ⟨k, hk, rfl, HB, HD⟩ := hrel
    by_cases hlt : k < n
    · obtain ⟨x, hx⟩ : ∃ x, ns[k]? = some x := ⟨_, List.getElem?_eq_getElem (by rw [← HN.out]; exact hlt)⟩
      have hxm := HNS.out x (List.mem_of_getElem? hx)
      obtain ⟨i, hi⟩ := Option.isSome_iff_exists.1 hxm.1
      obtain ⟨y, hy, hat⟩ := idx_some hi
      have hx64 := hxm.2
      have HKP : Hid (PoolAt wr I Q c) := Lib.hid ((H.out.below HB1.out).below HB.out)
      have hown : OK encI 1 3 wr w.heap.size (.slice A n cc) ns := HO.out.below HB.out
      obtain ⟨rb, ro, rfl, hcell⟩ := rowAt (hown.rk encI_len (Nat.le_refl _)) hx
      have d5 := HKP.out.c5
      have HMP := Lib.hid HKP.out.map
      have HV : Hid ((holdF I.fb c.fs x).getD (.pointer none) = .pointer (some ⟨I.fb, i * 6, none⟩)) := Lib.hid (by unfold holdF; rw [hi]; rfl)
      obtain ⟨pn, hpn⟩ : ∃ pn, pn = y.1.pins := ⟨_, rfl⟩
      have k2 : wr.cell? ⟨I.fb, i * 6 + 2, none⟩ = some (.int .i64 (pn : Int)) := by rw [hpn]; exact HKP.out.frs.cell hy 2 _ rfl
      have hpt : pn < 1000000000000000 := by have := (H.out.turn i y hy).2; have := HTN.out; omega
      have HPO : Hid (pinsOf c.fs x = pn) := Lib.hid (by unfold pinsOf; rw [fr_of H.out.uniq hy hat, hpn]; rfl)
      have HSN : Hid (pinsL c.fs (ns.take (k + 1)) = pinsL c.fs (ns.take k) ++ List.replicate pn x) := Lib.hid (by rw [pinsL_snoc c.fs hx, HPO.out])
      have HLD : Hid ((pinsL c.fs (ns.take k)).length + pn ≤ 10000000000000) := Lib.hid (by
        have h1 := pinsL_len c.fs ns (k + 1)
        rw [HSN.out, List.length_append, List.length_replicate] at h1
        have h3 := HPL.out; omega)
      clear hx hxm hi hy hat hown hpn
      go_wp2_with (at_lookup; refine wpList_lookG1 (X := kI) rfl _ _ _ rfl _ Tryz.underlying111 (zeroP _) isPtr_nil I.mp I.nf rfl HMP.out x rfl hx64 _ HV.out ?_)
      obtain ⟨Wo, hWo⟩ : ∃ Wo, Wo = wr := ⟨_, rfl⟩
      rw [← hWo]
      rw [← hWo] at HB HD HKP HMP d5 k2 hcell
      clear hWo
      go_loopw [3, 22] (fun t j wi => ∃ q : Nat, q ≤ pn ∧ j = .int .i64 (q : Int) ∧ Hid (Below w1.heap.size w1 wi) ∧ Hid (OK encI 1 3 wi w1.heap.size t (pinsL c.fs (ns.take k) ++ List.replicate q x))) (fun _ j wi => pn - (intOf j).toNat)
      case atStart => exact ⟨0, Nat.zero_le _, rfl, HB, Lib.hid (by simpa using HD.out)⟩
      case round =>
        clear HB HD hcell d5 k2 HKP HMP
        obtain ⟨q, hq, rfl, HB, HD⟩ := hrel
        have hz := HB.out.size
        have HLo := Lib.hid HD.out.lt
        have HLQ : Hid ((pinsL c.fs (ns.take k) ++ List.replicate q x).length + (pn - q) ≤ 10000000000000) := Lib.hid (by rw [List.length_append, List.length_replicate]; have := HLD.out; omega)
        by_cases hlq : q < pn
        · have HRS : Hid (pinsL c.fs (ns.take k) ++ List.replicate (q + 1) x = (pinsL c.fs (ns.take k) ++ List.replicate q x) ++ [x]) := Lib.hid (by rw [List.replicate_succ', List.append_assoc])
          go_wp2_with (at_builtin; refine wpList_appB etNs encI_len encI_oneC (y := x) rfl _ _ rfl rfl (HD.out.alloc _) wr.heap.size rfl (oneNs wr x _) (by have := HLQ.out; omega) (by have := HLQ.out; omega) (by have := HLQ.out; omega) (by simp; omega) ?_; intro v' w5 ho5 hg5 hb5; have HO5 := Lib.hid ho5; have HG5 := Lib.hid hg5; clear ho5 hg5 hb5)
          go_roundw
          case rel =>
            refine ⟨q + 1, by omega, by go_num, Lib.hid ((HB.out.alloc (by omega) _).grown HG5.out (by simp; omega) (fun q hq => (HLo.out q hq).1)), Lib.hid ?_⟩
            rw [HRS.out]; exact HO5.out
          case measure => simp [intOf]; omega
        · obtain rfl : q = pn := by omega
          go_wp2_with fail
          go_roundw
          case rel =>
            refine ⟨k + 1, by omega, by go_num, HB, Lib.hid ?_⟩
            rw [HSN.out]; exact HD.out
          case measure => simp [intOf]; omega
    · obtain rfl : k = n := by omega
      go_wp2_with fail
      go_ret
      have e : ns.take k = ns := by rw [HN.out, List.take_length]
      have h1 := HD.out
      rw [e] at h1
      have hz := HB1.out.size
      exact ⟨_, rfl, h1.base hz, HB1.out.trans (HB.out.mono hz)⟩
end
end Go.Proofs.YtbagmmncjmbboaaGreat

/-
  A disk of which at most one step is refused; a log's flush and a page's write on it, in plain words. No walk.
-/
namespace Go.Proofs.YtbagmmncjmbboaaGreat
open Go.RowKit Go.Maps
set_option linter.unusedVariables false

/-- A disk that is on. Its step X has the fate q, and is still to come; no other has one. (q = 0: none has.) -/
structure Calm (s : DS) (X : Nat) (q : Int) : Prop where
  off : s.off = false
  plan : ∀ j : Int, s.plan j = if j = (X : Int) then q else 0
  q : q = 0 ∨ (1 ≤ q ∧ q ≤ 3 ∧ s.steps < X)

/-- A step was refused. -/
def Hit (s : DS) (X : Nat) (q : Int) : Prop := q ≠ 0 ∧ X ≤ s.steps

section

variable {s : DS} {X : Nat} {q : Int}

theorem Calm.code (h : Calm s X q) : (s.code = 0 ∧ (q = 0 ∨ s.steps + 1 < X)) ∨ (s.code ≠ 0 ∧ q ≠ 0 ∧ X = s.steps + 1) := by
  have e : s.fate = if s.steps + 1 = X then q else 0 := by
    unfold DS.fate
    rw [h.plan]
    by_cases h : s.steps + 1 = X
    · rw [if_pos (by omega), if_pos h]
    · rw [if_neg (by omega), if_neg h]
  by_cases hX : s.steps + 1 = X
  · rw [if_pos hX] at e
    rcases h.q with hq | ⟨h1, h2, -⟩
    · refine .inl ⟨?_, .inl hq⟩
      unfold DS.code
      rw [e, hq]
      simp
    · refine .inr ⟨?_, by omega, hX.symm⟩
      unfold DS.code
      rw [e]
      repeat' split
      all_goals omega
  · rw [if_neg hX] at e
    refine .inl ⟨?_, ?_⟩
    · unfold DS.code
      rw [e]
      simp
    · rcases h.q with hq | ⟨h1, h2, h3⟩
      · exact .inl hq
      · exact .inr (by omega)

/-- A step that goes well, one that is refused. -/
theorem Calm.step (h : Calm s X q) (f : DS → DS) (h1 : (f s.tick).off = s.off) (h2 : (f s.tick).plan = s.plan) (h3 : (f s.tick).steps = s.steps + 1) :
    (s.code = 0 ∧ s.step f = f s.tick ∧ Calm (s.step f) X q) ∨ (s.code ≠ 0 ∧ Hit (s.step f) X q) := by
  rcases h.code with ⟨hc, hq⟩ | ⟨hc, hq, hX⟩
  · have e := step_ok (f := f) hc
    refine .inl ⟨hc, e, ?_⟩
    rw [e]
    refine ⟨by rw [h1]; exact h.off, by rw [h2]; exact h.plan, ?_⟩
    rw [h3]
    rcases h.q with h' | ⟨a, b, -⟩
    · exact .inl h'
    · rcases hq with hq | hq
      · exact .inl hq
      · exact .inr ⟨a, b, hq⟩
  · exact .inr ⟨hc, hq, by rw [step_stepsW s f h3]; omega⟩

theorem Calm.write (h : Calm s X q) {i : Nat} {l : List Nat} (hi : i < s.safe.length) (hl : l.length = 512) :
    (s.writeE (i : Int) l = 0 ∧ s.write (i : Int) l = DS.put (i : Int) l s.tick ∧ Calm (s.write (i : Int) l) X q) ∨ (s.writeE (i : Int) l ≠ 0 ∧ Hit (s.write (i : Int) l) X q) := by
  have h2 : s.isSec (i : Int) = true := by unfold DS.isSec; simp; omega
  have e1 : s.writeE (i : Int) l = s.code := by unfold DS.writeE; rw [h.off, h2, hl]; simp
  have e2 : s.write (i : Int) l = s.step (DS.put (i : Int) l) := by unfold DS.write; rw [h.off, h2, hl, pad_full hl]; simp
  rw [e1, e2]
  exact h.step (DS.put (i : Int) l) rfl rfl rfl

theorem Calm.sync (h : Calm s X q) : (s.syncE = 0 ∧ s.sync = s.tick.settle ∧ Calm s.sync X q) ∨ (s.syncE ≠ 0 ∧ Hit s.sync X q) := by
  have e1 : s.syncE = s.code := by unfold DS.syncE; rw [h.off]; simp
  have e2 : s.sync = s.step DS.settle := by unfold DS.sync; rw [h.off]; simp
  rw [e1, e2]
  exact h.step DS.settle rfl rfl rfl

theorem Calm.read (h : Calm s X q) {i : Nat} (hi : i < s.safe.length) : s.readE (i : Int) = 0 := by
  have h2 : s.isSec (i : Int) = true := by unfold DS.isSec; simp; omega
  unfold DS.readE
  rw [h.off, h2]
  simp

/-- A log that takes records, on its disk. -/
structure LogFit (s : DS) (m : LG) : Prop where
  ok : m.Ok
  dead : m.dead = false
  fresh : m.fresh = true
  byte : ∀ x ∈ m.st, x < 256
  fit : m.first + m.count ≤ s.safe.length

/-- What a flush of the log leaves. -/
structure FlushOk (s : DS) (m : LG) (X : Nat) (q : Int) : Prop where
  log : (m.flush s).2.1 = { m with safe := m.st.length }
  calm : Calm (m.flush s).1 X q
  len : (m.flush s).1.safe.length = s.safe.length
  has : ∀ i : Nat, i < s.safe.length → m.first + m.count ≤ i → (m.flush s).1.has i = s.has i
  pend : ∀ i : Nat, s.pend (i : Int) = none → (m.flush s).1.pend (i : Int) = none ∨ i < m.first + m.count

theorem flush_len (s : DS) (m : LG) : (m.flush s).1.safe.length = s.safe.length := by
  unfold LG.flush
  split
  · rfl
  · split
    · rfl
    · split
      · exact len_save _ _ _ _
      · exact len_save _ _ _ _

theorem EachSec.flush {P : Nat → List Nat → Prop} {m : LG} (h : EachSec P s) (hst : ∀ x ∈ m.st, x < 256) (hP : ∀ i b, m.first ≤ i → P i b) : EachSec P (m.flush s).1 := by
  have h1 := EachSec.save (run := m.run) (first := m.first) (P := P) hst m.st.length (m.safe / 498) s (fun i _ => hP _ _ (by omega)) h
  unfold LG.flush
  split
  · exact h
  · split
    · exact h
    · split
      · exact h1
      · exact h1

set_option maxRecDepth 100000 in
theorem Calm.flush (h : Calm s X q) {m : LG} (hl : LogFit s m) : ((m.flush s).2.2 = 0 ∧ FlushOk s m X q) ∨ ((m.flush s).2.2 ≠ 0 ∧ Hit (m.flush s).1 X q) := by
  have hd := hl.dead
  by_cases hs : m.safe = m.st.length
  · have e : m.flush s = (s, m, 0) := by unfold LG.flush; rw [hd, if_neg (by simp), if_pos hs]
    rw [e]
    refine .inl ⟨rfl, ⟨by rw [e, ← hs], by rw [e]; exact h, by rw [e], fun _ _ _ => by rw [e], fun _ hp => by rw [e]; exact .inl hp⟩⟩
  · have hst := hl.ok.st
    have hsf := hl.ok.safe
    have hfit0 := hl.fit
    have hfit : ∀ i, (i = m.safe / 498 ∨ i * 498 < m.st.length) → m.first + i < s.safe.length := by
      intro i hi
      have : i < m.count := by
        rcases hi with hi | hi
        · have : i * 498 ≤ m.safe := by rw [hi]; exact Nat.div_mul_le_self _ _
          exact Nat.lt_of_mul_lt_mul_right (a := 498) (by omega)
        · exact Nat.lt_of_mul_lt_mul_right (a := 498) (by omega)
      omega
    have hk : m.safe / 498 * 498 ≤ m.safe := Nat.div_mul_le_self _ _
    have hn : 1 ≤ m.st.length := by omega
    have hfu : m.st.length ≤ (m.safe / 498 + m.st.length) * 498 := by rw [Nat.add_mul]; omega
    by_cases hk0 : (DS.save m.run m.first m.st m.st.length (m.safe / 498) s).2 = 0
    · have hw := save_well (run := m.run) (first := m.first) hl.byte m.st.length (m.safe / 498) s h.off hn hfu (.inr (by omega)) hfit hk0
      have e : m.flush s = ((DS.save m.run m.first m.st m.st.length (m.safe / 498) s).1, { m with safe := m.st.length }, 0) := by unfold LG.flush; rw [hd, if_neg (by simp), if_neg hs, if_pos hk0]
      have hpl := plan_save (run := m.run) (st := m.st) (first := (m.first : Int)) m.st.length (m.safe / 498) s
      have hln := len_save (run := m.run) (st := m.st) (m.first : Int) m.st.length (m.safe / 498) s
      obtain ⟨s', hs'⟩ : ∃ s', s' = (DS.save m.run m.first m.st m.st.length (m.safe / 498) s).1 := ⟨_, rfl⟩
      rw [← hs'] at hw e hpl hln
      refine .inl ⟨by rw [e], ⟨by rw [e], ?_, by rw [e]; exact hln, ?_, ?_⟩⟩
      · rw [e]
        refine ⟨hw.off, by rw [hpl]; exact h.plan, ?_⟩
        rcases h.q with hq | ⟨h1, h2, h3⟩
        · exact .inl hq
        · refine .inr ⟨h1, h2, ?_⟩
          have := save_hit (run := m.run) (first := m.first) hl.byte X q ⟨h1, h2⟩ m.st.length (m.safe / 498) s h.off h.plan hn hfu hfit
          rw [← hs'] at this
          have h4 : ¬ (s.steps < X ∧ X ≤ s'.steps) := fun e => this.2 e hk0
          show s'.steps < X
          omega
      · intro i hi hf
        rw [e]
        show s'.has i = s.has i
        have ho := hw.old i hi (by
          rintro (h1 | ⟨h1, h2⟩)
          · have := hfit (m.safe / 498) (.inl rfl)
            have h3 : m.safe / 498 < m.count := Nat.lt_of_mul_lt_mul_right (a := 498) (by omega)
            omega
          · have h3 : i - m.first < m.count := Nat.lt_of_mul_lt_mul_right (a := 498) (by omega)
            omega)
        rw [← ho]
        unfold DS.has
        rw [hw.pend]
        rfl
      · intro i _
        rw [e]
        exact .inl (by show s'.pend (i : Int) = none; rw [hw.pend])
    · have e : m.flush s = ((DS.save m.run m.first m.st m.st.length (m.safe / 498) s).1, { m with dead := true }, (DS.save m.run m.first m.st m.st.length (m.safe / 498) s).2) := by unfold LG.flush; rw [hd, if_neg (by simp), if_neg hs, if_neg hk0]
      rw [e]
      refine .inr ⟨hk0, ?_⟩
      rcases h.q with hq | ⟨h1, h2, h3⟩
      · exfalso
        refine hk0 (save_clean hl.byte m.st.length (m.safe / 498) s ⟨fun k => ?_, h.off⟩ hfit)
        rw [h.plan, hq]; simp
      · have := (save_hit (run := m.run) (first := m.first) hl.byte X q ⟨h1, h2⟩ m.st.length (m.safe / 498) s h.off h.plan hn hfu hfit).1 hk0
        exact ⟨by omega, this.2⟩
end
end Go.Proofs.YtbagmmncjmbboaaGreat

/-
  What a page's bytes are, read back: the same page. No walk.
-/
namespace Go.Proofs.YtbagmmncjmbboaaGreat
open Go.RowKit Go.Maps
set_option linter.unusedVariables false

/-- A page that fits, its items bytes. -/
structure PgGood (m : PG) : Prop where
  ok : m.Ok
  fit : m.Fit
  byte : ∀ l ∈ m.items, ∀ x ∈ l, x < 256

theorem slotsL_byte : ∀ (l : List (List Nat)) (e : Nat), ∀ x ∈ slotsL l e, x < 256
  | [], e, x, hx => by simp [slotsL] at hx
  | a :: r, e, x, hx => by
    unfold slotsL at hx
    rcases List.mem_append.1 hx with hx | hx
    · exact digits_lt _ _ x hx
    · exact slotsL_byte r _ x hx

theorem PgGood.body {m : PG} (h : PgGood m) : ∀ x ∈ m.body, x < 256 := by
  have hn := h.ok.num
  have hk := h.ok.kind
  intro x hx
  unfold PG.body PG.mid at hx
  rcases List.mem_append.1 hx with hx | hx
  · rcases List.mem_append.1 hx with hx | hx
    · rcases List.mem_append.1 hx with hx | hx
      · unfold PG.head at hx
        simp only [List.mem_append, List.mem_singleton] at hx
        rcases hx with ((hx | hx) | hx) | hx
        · exact digits_lt _ _ x hx
        · omega
        · exact digits_lt _ _ x hx
        · omega
      · exact slotsL_byte _ _ x hx
    · have := (List.mem_replicate.1 hx).2; omega
  · unfold tailL at hx
    rw [List.mem_flatten] at hx
    obtain ⟨l, hl, hx⟩ := hx
    rw [List.mem_reverse] at hl
    exact h.byte l (List.mem_of_mem_take hl) x hx

theorem PgGood.bytes {m : PG} (h : PgGood m) : ∀ x ∈ pageL m, x < 256 := by
  intro x hx
  unfold pageL at hx
  rcases List.mem_append.1 hx with hx | hx
  · exact digits_lt _ _ x hx
  · exact h.body x hx

theorem PgGood.head {m : PG} (h : PgGood m) : HeadOk (pageL m) := by
  have hl := h.ok.lsn
  have hn := h.ok.num
  refine ⟨pageL_len h.fit, ?_, ?_, ?_⟩
  · rw [(pg_sum m).1, (pg_sum m).2, leV_digits_of (by have := crcSum_lt m.body h.body; omega)]
  · rw [pg_lsn, leV_digits_of (by omega)]; omega
  · rw [List.getD, pg_count]; simpa using hn

theorem sec0_crc : ¬ (leV (sec0.take 4) = crcSum (sec0.drop 4)) := of_decide_eq_true (by kernel_rfl)

theorem sec0_head : ¬ HeadOk sec0 := fun h => sec0_crc h.sum

theorem PgGood.ne {m : PG} (h : PgGood m) : pageL m ≠ sec0 := fun e => sec0_head (by rw [← e]; exact h.head)

theorem PgGood.pre {m : PG} (h : PgGood m) : (pageL m).getD 17 0 = m.items.length ∧ Pre (pageL m) m.items.length m.items := by
  have hf := h.fit
  unfold PG.Fit at hf
  refine ⟨by rw [List.getD, pg_count]; rfl, ⟨⟨Nat.le_refl _, hf, h.ok.item, fun k hk => ?_, fun k hk => pg_item h.fit hk⟩, .inl rfl⟩⟩
  unfold slotV
  rw [pg_slot hk, leV_digits_of (by omega)]

theorem PgGood.isPage {m : PG} (h : PgGood m) : IsPage (pageL m) m.items := by
  refine ⟨h.head, ?_⟩
  rw [h.pre.1]
  refine ⟨rfl, fun j h1 h2 => pg_gap h.fit h1 ?_⟩
  unfold endOf at h2
  rw [sumTo_all]; exact h2

theorem PgGood.same {m : PG} (h : PgGood m) : pgOf (pageL m) m.items = m := by
  have hl := h.ok.lsn
  have he := h.ok.extra
  unfold pgOf
  rw [pg_lsn, pg_extra, leV_digits_of (by omega), leV_digits_of (by omega), List.getD, pg_kind]
  obtain ⟨ls, k, e, its⟩ := m
  dsimp only at hl ⊢
  congr 1
  omega

/-- A page's bytes are that page. -/
theorem PgGood.pageOf {m : PG} (h : PgGood m) : PageOf (pageL m) m := .inr ⟨h.ne, m.items, h.isPage, by rw [h.pre.1]; exact h.pre.2, h.same.symm⟩

theorem pageOf_unique {L : List Nat} {m m' : PG} (h : PageOf L m) (h' : PageOf L m') : m = m' := by
  rcases h with ⟨h1, rfl⟩ | ⟨h1, its, hi, hp, rfl⟩ <;> rcases h' with ⟨h2, rfl⟩ | ⟨h2, its2, hi2, hp2, rfl⟩
  · rfl
  · exact absurd h1 h2
  · exact absurd h2 h1
  · rw [pre_unique hp hp2 hi2.2.1]

theorem pageOf_good {L : List Nat} {m : PG} (h : PageOf L m) (hb : ∀ x ∈ L, x < 256) : PgGood m := by
  rcases h with ⟨-, rfl⟩ | ⟨-, its, hi, hp, rfl⟩
  · exact ⟨⟨by simp [PG.new], by simp [PG.new], by simp [PG.new], by simp [PG.new], by simp [PG.new]⟩, by unfold PG.Fit PG.new; simp, by simp [PG.new]⟩
  · obtain ⟨h1, h2, h3⟩ := isPage_pgC hi hb hp
    refine ⟨h3, h2, fun l hl x hx => ?_⟩
    obtain ⟨k, hk, e⟩ := List.mem_iff_getElem.1 hl
    have e2 : its[k]'hk = l := e
    have h4 := hp.toPre0.item k hk
    rw [e2] at h4
    rw [← h4] at hx
    exact hb x (List.mem_of_mem_drop (List.mem_of_mem_take hx))

/-- The bytes that a page's sector has: the page's, where it isn't blank. -/
theorem pageOf_bytes {L : List Nat} {m : PG} (h : PageOf L m) (hb : ∀ x ∈ L, x < 256) : L = sec0 ∨ pageL m = L := by
  rcases h with ⟨h1, -⟩ | ⟨-, its, hi, hp, rfl⟩
  · exact .inl h1
  · exact .inr (isPage_pgC hi hb hp).1

/-- A page in memory is good. -/
theorem PgIn.good {w : World} {F : Nat → Prop} {x : FrM} {pg : PG} (h : PgIn w F x pg) : PgGood pg := by
  refine ⟨h.at_.ok, h.fit, fun l hl y hy => ?_⟩
  obtain ⟨k, hk, e⟩ := List.mem_iff_getElem.1 hl
  have hx : k < x.xs.length := by rw [h.at_.len]; exact hk
  have := (h.at_.item k _ l (List.getElem?_eq_getElem hx) (by rw [List.getElem?_eq_getElem hk, e])).1
  exact this.1 y hy
end Go.Proofs.YtbagmmncjmbboaaGreat
