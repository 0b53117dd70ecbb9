/-
  The walk of rise.
-/
import Derived.Test.YtlhkajlkapoabaaLK9
namespace Go.Proofs.Ytlhkajlkapoabaa
open Go.RowKit Go.Maps
set_option linter.unusedVariables false

theorem fillF_append : ∀ (F G : List Fr) (s : ST), fillF (F ++ G) s = fillF G (fillF F s)
  | [], _, _ => rfl
  | f :: F, G, s => fillF_append F G (f.fill s)

theorem find_place {n : Nat} : ∀ {x : ST}, n ∈ x.flat → ∃ F l t r, x = fillF F (.node l n t r)
  | .nil, h => by simp [ST.flat] at h
  | .node l a t r, h => by
    simp only [ST.flat, List.mem_append, List.mem_cons] at h
    rcases h with h | rfl | h
    · obtain ⟨F, l', t', r', e⟩ := find_place h
      refine ⟨F ++ [⟨a, t, false, r⟩], l', t', r', ?_⟩
      rw [fillF_append, ← e]
      rfl
    · exact ⟨[], l, t, r, rfl⟩
    · obtain ⟨F, l', t', r', e⟩ := find_place h
      refine ⟨F ++ [⟨a, t, true, l⟩], l', t', r', ?_⟩
      rw [fillF_append, ← e]
      rfl

def sideOfF : List Fr → Int × Bool
  | [] => (0, false)
  | f :: _ => (if f.d then 1 else 0, true)

theorem side_fill {M : Nat → LN} {F : List Fr} {l r : ST} {n : Nat} {t : Bool} {u : Option Nat} (hl : LaidS M (fillF F (.node l n t r)) u) (hn : (fillF F (.node l n t r)).flat.Nodup) (ho : Out M u n) : sideN M n = sideOfF F := by
  obtain ⟨hs, hc⟩ := (laid_fill F _).1 hl
  obtain ⟨n1, n2, n3⟩ := fill_parts hn
  unfold sideN
  rw [hs.1]
  dsimp only
  cases F with
  | nil =>
    show (match u with | none => ((0 : Int), false) | some p => if (M p).l = some n then (0, true) else if (M p).r = some n then (1, true) else (0, false)) = (0, false)
    cases u with
    | none => rfl
    | some g =>
      obtain ⟨h1, h2⟩ := ho g rfl
      dsimp only
      rw [if_neg h1, if_neg h2]
  | cons f F =>
    obtain ⟨h1, -, -⟩ := hc
    obtain ⟨a, t', d, o⟩ := f
    show (if (M a).l = some n then ((0 : Int), true) else if (M a).r = some n then (1, true) else (0, false)) = (if d then 1 else 0, true)
    dsimp only at h1
    rw [h1]
    have no : n ∉ o.flat := fun hm => n3 n (by simp [flatC, hm]) (by simp [ST.flat])
    cases d
    · show (if (ST.node l n t r).root = some n then ((0 : Int), true) else _) = _
      rw [if_pos (show (ST.node l n t r).root = some n from rfl)]; rfl
    · show (if o.root = some n then ((0 : Int), true) else if (ST.node l n t r).root = some n then (1, true) else (0, false)) = _
      rw [if_neg (ne_root no), if_pos (show (ST.node l n t r).root = some n from rfl)]
      rfl

theorem Fr.fill_node (f : Fr) (s : ST) : ∃ l r, f.fill s = .node l f.a f.t r := by
  unfold Fr.fill
  cases f.d
  · exact ⟨s, f.o, rfl⟩
  · exact ⟨f.o, s, rfl⟩

theorem Fr.fill_set (f : Fr) (s : ST) : ∃ d o s', (f.fill s).set = Fr.fill ⟨f.a, false, d, o⟩ s' ∧ (s' = s ∨ s' = s.tog) := by
  obtain ⟨a, t, d, o⟩ := f
  unfold Fr.fill ST.set
  cases d <;> cases t
  · exact ⟨false, o, s, rfl, .inl rfl⟩
  · exact ⟨true, o.tog, s.tog, rfl, .inr rfl⟩
  · exact ⟨true, o, s, rfl, .inl rfl⟩
  · exact ⟨false, o.tog, s.tog, rfl, .inr rfl⟩

theorem Fr.fill_tog (f : Fr) (s : ST) : (f.fill s).tog = Fr.fill ⟨f.a, !f.t, f.d, f.o⟩ s := by
  unfold Fr.fill
  cases f.d <;> rfl

theorem set_top (l : ST) (n : Nat) (t : Bool) (r : ST) : ∃ A B, (ST.node l n t r).set = .node A n false B := by
  obtain ⟨A, B, h, -⟩ := ST.set_node l n t r
  exact ⟨A, B, h⟩

section

variable {S : Nat → Prop} {w0 w : World} {u : Option Nat} {N N' : Nat → NdL} {x y : ST}

theorem lift_rt {F : List Fr} {A B o : ST} {n p : Nat} {d : Bool} (C : Ctx S u N x) (R : Rt S w0 u N x w N' (fillF (⟨p, false, d, o⟩ :: F) (.node A n false B))) :
    Calls Try.prog 53 #[.pointer (some ⟨n, 0, none⟩)] w fun e w' => e = .returned (.tuple #[]) ∧ ∃ N'' A' B', Rt S w0 u N x w' N'' (fillF F (.node A' n false B')) := by
  cases d
  · refine (lift_rt_left (F := F) C R).mono ?_
    rintro e w1 ⟨rfl, N'', h⟩
    exact ⟨rfl, N'', _, _, h⟩
  · refine (lift_rt_right (F := F) C R).mono ?_
    rintro e w1 ⟨rfl, N'', h⟩
    exact ⟨rfl, N'', _, _, h⟩

/-- The upper one of two that hang on the same side is lifted first. -/
theorem lift_rt2 {F : List Fr} {A B o q : ST} {n p g : Nat} {d : Bool} (C : Ctx S u N x) (R : Rt S w0 u N x w N' (fillF (⟨p, false, d, o⟩ :: ⟨g, false, d, q⟩ :: F) (.node A n false B))) :
    Calls Try.prog 53 #[.pointer (some ⟨p, 0, none⟩)] w fun e w' => e = .returned (.tuple #[]) ∧ ∃ N'' o', Rt S w0 u N x w' N'' (fillF (⟨p, false, d, o'⟩ :: F) (.node A n false B)) := by
  cases d
  · refine (lift_rt_left (F := F) (A := .node A n false B) (B := o) (s := q) (n := p) (p := g) C R).mono ?_
    rintro e w1 ⟨rfl, N'', h⟩
    exact ⟨rfl, N'', .node o g false q, h⟩
  · refine (lift_rt_right (F := F) (A := o) (B := .node A n false B) (s := q) (n := p) (p := g) C R).mono ?_
    rintro e w1 ⟨rfl, N'', h⟩
    exact ⟨rfl, N'', .node q g false o, h⟩

/-- A frame's node settles. -/
theorem settle_fr {f : Fr} {F : List Fr} {s : ST} (C : Ctx S u N x) (R : Rt S w0 u N x w N' (fillF (f :: F) s)) :
    Calls Try.prog 46 #[.pointer (some ⟨f.a, 0, none⟩)] w fun e w' => e = .returned (.tuple #[]) ∧ ∃ N'' d o s', (s' = s ∨ s' = s.tog) ∧ Rt S w0 u N x w' N'' (fillF (⟨f.a, false, d, o⟩ :: F) s') := by
  obtain ⟨l, r, e⟩ := f.fill_node s
  have R' : Rt S w0 u N x w N' (fillF F (.node l f.a f.t r)) := by rw [← e]; exact R
  refine (settle_rt C R').mono ?_
  rintro e1 w1 ⟨rfl, N'', h⟩
  obtain ⟨d, o, s', e2, hs⟩ := f.fill_set s
  refine ⟨rfl, N'', d, o, s', hs, ?_⟩
  show Rt S w0 u N x w1 N'' (fillF F (Fr.fill ⟨f.a, false, d, o⟩ s'))
  rw [← e2, e]
  exact h

theorem Rt.side {F : List Fr} {l r : ST} {n : Nat} {t : Bool} (C : Ctx S u N x) (R : Rt S w0 u N x w N' (fillF F (.node l n t r))) : Calls Try.prog 51 #[.pointer (some ⟨n, 0, none⟩)] w fun e w' => e = .returned (.tuple #[.int .i64 (sideOfF F).1, .bool (sideOfF F).2]) ∧ w' = w := by
  have hx : n ∈ x.flat := R.perm.mem_iff.1 ((perm_fill F _).mem_iff.2 (by simp [ST.flat]))
  have h := side_any w S N' R.at_ n (C.inS n hx) (R.clo C)
  rw [side_fill R.laid (R.nodup C) (R.out C hx)] at h
  exact h

theorem Rt.upCell {F : List Fr} {l r : ST} {n : Nat} {t : Bool} (C : Ctx S u N x) (R : Rt S w0 u N x w N' (fillF F (.node l n t r))) : w.cell? ⟨n, 0, none⟩ = some (.pointer (pA (topF F u))) := by
  have hx : n ∈ x.flat := R.perm.mem_iff.1 ((perm_fill F _).mem_iff.2 (by simp [ST.flat]))
  have h : w.cell? ⟨n, 0, none⟩ = some (ptrV (nOf N' n).up) := (R.at_ n (C.inS n hx)).cell 0
  rw [((laid_fill F _).1 R.laid).1.1] at h
  rw [h, ptrV_eq]

theorem Rt.mem {F : List Fr} {l r : ST} {n : Nat} {t : Bool} (R : Rt S w0 u N x w N' (fillF F (.node l n t r))) : n ∈ x.flat := R.perm.mem_iff.1 ((perm_fill F _).mem_iff.2 (by simp [ST.flat]))

end

set_option maxRecDepth 100000 in
set_option maxHeartbeats 8000000 in
theorem rise_any (w : World) (S : Nat → Prop) (u : Option Nat) (N : Nat → NdL) (x : ST) (C : Ctx S u N x) (hN : NAt w S N) (hl : LaidS (nOf N) x u) (ht : ToldS N x) (n : Nat) (hn : n ∈ x.flat) :
    Calls Try.prog 47 #[.pointer (some ⟨n, 0, none⟩)] w fun e w' => e = .returned (.tuple #[]) ∧ ∃ N' A B, Rt S w u N x w' N' (.node A n false B) := by
  obtain ⟨F0, l0, t0, r0, e0⟩ := find_place hn
  have R0 : Rt S w u N x w N (fillF F0 (.node l0 n t0 r0)) := ⟨hN, Mod.refl _ _, by rw [← e0]; exact hl, by rw [← e0]; exact ht, by rw [e0], by rw [e0], fun _ _ => rfl, fun _ => ⟨rfl, rfl⟩⟩
  have HC := Lib.hid C
  have HR0 := Lib.hid R0
  clear C hN hl ht hn e0 R0
  go_enter Try.func47, Try.ntmps47
  go_wp2_with fail
  go_loopg [2] F0.length (fun k s2 wr => ∃ (N' : Nat → NdL) (F : List Fr) (l : ST) (t : Bool) (r : ST), k = F.length ∧ Hid (Rt S w u N x wr N' (fillF F (.node l n t r))))
  case atStart => exact ⟨N, F0, l0, t0, r0, rfl, HR0⟩
  case round =>
    obtain ⟨N', F, l, t, r, rfl, HR⟩ := hrel
    have hside := HR.out.side HC.out
    cases F with
    | nil =>
      have HSD := Lib.hid hside
      clear hside
      have HST := Lib.hid (settle_rt (F := []) HC.out HR.out)
      go_wp2_with fail
      refine HSD.out.mono ?_
      rintro e w1 ⟨rfl, hw⟩
      subst w1
      go_wp2_with fail
      refine HST.out.mono ?_
      rintro e w1 ⟨rfl, N'', h⟩
      have H := Lib.hid h
      clear h
      go_wp2_with fail
      refine bodyPost_ret (results_none rfl _ _ _) rfl ?_
      obtain ⟨A, B, e⟩ := set_top l n t r
      exact ⟨rfl, N'', A, B, by rw [← e]; exact H.out⟩
    | cons f F =>
      have hcell : wr.cell? ⟨n, 0, none⟩ = some (.pointer (some ⟨f.a, 0, none⟩)) := HR.out.upCell HC.out
      obtain ⟨sd, hsd⟩ : ∃ sd : Int, sd = (if f.d then 1 else 0) := ⟨_, rfl⟩
      have hside : Calls Try.prog 51 #[.pointer (some ⟨n, 0, none⟩)] wr fun e w' => e = .returned (.tuple #[.int .i64 sd, .bool true]) ∧ w' = wr := by rw [hsd]; exact hside
      have HSD := Lib.hid hside
      clear hside hsd
      obtain ⟨fl, fr, ef⟩ := f.fill_node (.node l n t r)
      have HRp : Hid (Rt S w u N x wr N' (fillF F (.node fl f.a f.t fr))) := Lib.hid (by rw [← ef]; exact HR.out)
      clear ef
      have hside2 := HRp.out.side HC.out
      cases F with
      | nil =>
        have HSP := Lib.hid hside2
        clear hside2
        have HST := Lib.hid (settle_fr (F := []) HC.out HR.out)
        go_wp2_with fail
        refine HSD.out.mono ?_
        rintro e w1 ⟨rfl, hw⟩
        subst w1
        go_wp2_with fail
        refine HSP.out.mono ?_
        rintro e w1 ⟨rfl, hw⟩
        subst w1
        clear hcell
        go_wp2_with fail
        refine HST.out.mono ?_
        rintro e w1 ⟨rfl, N2, d, o, s', hs, h⟩
        obtain ⟨l', t', r', es⟩ : ∃ l' t' r', s' = .node l' n t' r' := by
          rcases hs with rfl | rfl
          · exact ⟨_, _, _, rfl⟩
          · exact ⟨_, _, _, rfl⟩
        subst es
        clear hs
        have HST2 := Lib.hid (settle_rt (F := [⟨f.a, false, d, o⟩]) HC.out h)
        clear h
        go_wp2_with fail
        refine HST2.out.mono ?_
        rintro e w2 ⟨rfl, N3, h⟩
        obtain ⟨A, B, eA⟩ := set_top l' n t' r'
        rw [eA] at h
        clear eA
        have HLI := Lib.hid (lift_rt (F := []) HC.out h)
        clear h
        go_wp2_with fail
        refine HLI.out.mono ?_
        rintro e w3 ⟨rfl, N4, A', B', h⟩
        have H := Lib.hid h
        clear h
        go_wp2_with fail
        go_roundg 0
        case rel => exact ⟨N4, [], A', false, B', rfl, H⟩
        case measure => simp
      | cons f2 F =>
        have hcell2 : wr.cell? ⟨f.a, 0, none⟩ = some (.pointer (some ⟨f2.a, 0, none⟩)) := HRp.out.upCell HC.out
        obtain ⟨sd2, hsd2⟩ : ∃ sd : Int, sd = (if f2.d then 1 else 0) := ⟨_, rfl⟩
        have hside2 : Calls Try.prog 51 #[.pointer (some ⟨f.a, 0, none⟩)] wr fun e w' => e = .returned (.tuple #[.int .i64 sd2, .bool true]) ∧ w' = wr := by rw [hsd2]; exact hside2
        have HSP := Lib.hid hside2
        clear hside2 hsd2
        have HST := Lib.hid (settle_fr (f := f2) (F := F) (s := f.fill (.node l n t r)) HC.out HR.out)
        go_wp2_with fail
        refine HSD.out.mono ?_
        rintro e w1 ⟨rfl, hw⟩
        subst w1
        go_wp2_with fail
        refine HSP.out.mono ?_
        rintro e w1 ⟨rfl, hw⟩
        subst w1
        go_wp2_with fail
        refine HST.out.mono ?_
        rintro e w1 ⟨rfl, N2, d2, q, s', hs, h⟩
        clear hcell hcell2
        obtain ⟨f1, e1, e2⟩ : ∃ f1 : Fr, f1.a = f.a ∧ s' = f1.fill (.node l n t r) := by
          rcases hs with rfl | rfl
          · exact ⟨f, rfl, rfl⟩
          · exact ⟨⟨f.a, !f.t, f.d, f.o⟩, rfl, Fr.fill_tog _ _⟩
        subst e2
        clear hs
        have hst := settle_fr (f := f1) (F := ⟨f2.a, false, d2, q⟩ :: F) HC.out h
        rw [e1] at hst
        have HST2 := Lib.hid hst
        clear h hst e1
        go_wp2_with fail
        refine HST2.out.mono ?_
        rintro e w2 ⟨rfl, N3, d, o, s', hs, h⟩
        obtain ⟨l', t', r', es⟩ : ∃ l' t' r', s' = .node l' n t' r' := by
          rcases hs with rfl | rfl
          · exact ⟨_, _, _, rfl⟩
          · exact ⟨_, _, _, rfl⟩
        subst es
        clear hs
        have HST3 := Lib.hid (settle_rt (F := ⟨f.a, false, d, o⟩ :: ⟨f2.a, false, d2, q⟩ :: F) HC.out h)
        clear h
        go_wp2_with fail
        refine HST3.out.mono ?_
        rintro e w3 ⟨rfl, N4, h⟩
        obtain ⟨A, B, eA⟩ := set_top l' n t' r'
        rw [eA] at h
        clear eA
        obtain ⟨pl, pr, ep⟩ := Fr.fill_node ⟨f.a, false, d, o⟩ (.node A n false B)
        have hp : Rt S w u N x w3 N4 (fillF (⟨f2.a, false, d2, q⟩ :: F) (.node pl f.a false pr)) := by rw [← ep]; exact h
        have hfirst := first_any w3 S N4 h.at_ n f.a (HC.out.inS n h.mem) (HC.out.inS f.a hp.mem) (h.clo HC.out)
        rw [side_fill h.laid (h.nodup HC.out) (h.out HC.out h.mem), side_fill hp.laid (hp.nodup HC.out) (hp.out HC.out hp.mem)] at hfirst
        clear ep hp
        by_cases hd : d = d2
        · subst hd
          rw [if_pos (show (sideOfF (⟨f.a, false, d, o⟩ :: ⟨f2.a, false, d, q⟩ :: F)).1 = (sideOfF (⟨f2.a, false, d, q⟩ :: F)).1 from rfl)] at hfirst
          have HF := Lib.hid hfirst
          have HLI := Lib.hid (lift_rt2 HC.out h)
          clear h hfirst
          go_wp2_with fail
          refine HF.out.mono ?_
          rintro e w1 ⟨rfl, hw⟩
          subst w1
          go_wp2_with fail
          refine HLI.out.mono ?_
          rintro e w4 ⟨rfl, N5, o', h⟩
          have HLJ := Lib.hid (lift_rt HC.out h)
          clear h
          go_wp2_with fail
          refine HLJ.out.mono ?_
          rintro e w5 ⟨rfl, N6, A', B', h⟩
          have H := Lib.hid h
          clear h
          go_wp2_with fail
          go_roundg F.length
          case rel => exact ⟨N6, F, A', false, B', rfl, H⟩
          case measure => simp; omega
        · have hne : ¬ (sideOfF (⟨f.a, false, d, o⟩ :: ⟨f2.a, false, d2, q⟩ :: F)).1 = (sideOfF (⟨f2.a, false, d2, q⟩ :: F)).1 := by
            show ¬ (if d then (1 : Int) else 0) = (if d2 then 1 else 0)
            cases d <;> cases d2 <;> simp_all
          rw [if_neg hne] at hfirst
          have HF := Lib.hid hfirst
          have HLI := Lib.hid (lift_rt (F := ⟨f2.a, false, d2, q⟩ :: F) HC.out h)
          clear h hfirst hne hd
          go_wp2_with fail
          refine HF.out.mono ?_
          rintro e w1 ⟨rfl, hw⟩
          subst w1
          go_wp2_with fail
          refine HLI.out.mono ?_
          rintro e w4 ⟨rfl, N5, A1, B1, h⟩
          have HLJ := Lib.hid (lift_rt HC.out h)
          clear h
          go_wp2_with fail
          refine HLJ.out.mono ?_
          rintro e w5 ⟨rfl, N6, A', B', h⟩
          have H := Lib.hid h
          clear h
          go_wp2_with fail
          go_roundg F.length
          case rel => exact ⟨N6, F, A', false, B', rfl, H⟩
          case measure => simp; omega

end Go.Proofs.Ytlhkajlkapoabaa
