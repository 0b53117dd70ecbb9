/-
  Layer 6's Way: a search for a trail.
-/
import Derived.Test.YtghacfhpafbdmaaGreatZT32
namespace Go.Proofs.YtghacfhpafbdmaaGreat
open Go.RowKit
set_option linter.unusedVariables false

theorem has01_any (v : Value) (us : List Int) (w : World) (B : Nat) (hv : RI w B v us) (x : Int) : Calls Tryz.prog 30 #[v, .int .i64 x] w fun e w' => e = .returned (.bool (decide (x ∈ us))) ∧ w' = w :=
  (Has_any v us x (decide (x ∈ us)) (by rw [Bool.eq_iff_iff]; simp) w B hv).mono fun e w' h => ⟨h.1, h.2.symm⟩

theorem other06_any (w : World) (e : Ed) (x : Int) : Calls Tryz.prog 120 #[.agg #[.int .i64 e.id, .int .i64 e.u, .int .i64 e.v, .int .i64 e.w], .int .i64 x] w fun r w' => r = .returned (.int .i64 (e.far x)) ∧ Below w.heap.size w w' := other_any e x w

/-- An edge that the search may take. -/
def Cand (us : List Int) (a : Int) (e : Ed) : Prop := (e.u = a ∨ e.v = a) ∧ e.id ∉ us

theorem done_of {es : List Ed} {us : List Int} {a : Int} (h : ∀ e ∈ es, ¬ Cand us a e) : Used es us a := fun e he hea => by
  by_cases hi : e.id ∈ us
  · exact hi
  · exact absurd ⟨hea, hi⟩ (h e he)

set_option maxRecDepth 100000 in
set_option maxHeartbeats 8000000 in
theorem way06_any (w : World) (b : Value) (es : List Ed) (V : List Int) (u v : Int) (hup : V.Pairwise (· < ·)) (hin : ∀ e ∈ es, e.u ∈ V ∧ e.v ∈ V) (hu : u ∈ V) (hv : v ∈ V) (hb : RK encE 4 w w.heap.size b es) (hn : (idsE es).Nodup) (hl : es.length ≤ 100000) :
    Calls Tryz.prog 89 #[b, .int .i64 u, .int .i64 v] w fun r w' => ∃ x ok p, r = .returned (.tuple #[x, .bool ok]) ∧ Below w.heap.size w w' ∧ OK encE 4 47 w' w.heap.size x p ∧ (if ok = true then Trl es u v p ∧ (idsE p).Nodup ∧ p.length ≤ es.length else p = [] ∧ ¬ Cn (plE V) es (pl V u) (pl V v)) := by
  obtain ⟨A, ca, rfl, -, -, -, HC⟩ := hb.open_
  obtain ⟨n, hnn⟩ : ∃ n, n = es.length := ⟨_, rfl⟩
  rw [← hnn] at hl ⊢
  have HN := Lib.hid hnn
  have HND := Lib.hid hn
  have HUP := Lib.hid hup
  have HINV := Lib.hid hin
  have HUV := Lib.hid hu
  have HVV := Lib.hid hv
  clear hb hnn hn hup hin hu hv
  go_enter Tryz.func89, Tryz.ntmps89
  go_wp2_with fail
  go_loopw [8, 9, 10] (fun pv av uv wr => ∃ (A1 : Option Addr) (m1 c1 : Nat) (A2 : Option Addr) (m2 c2 : Nat) (a : Int) (p : List Ed) (us : List Int), pv = .slice A1 m1 c1 ∧ av = .int .i64 a ∧ uv = .slice A2 m2 c2 ∧ Hid (m1 = p.length) ∧ Hid (m2 = us.length) ∧ Hid (Dfs es u v a p us) ∧ Hid (Below w.heap.size w wr) ∧ Hid (OK encE 4 47 wr w.heap.size (.slice A1 m1 c1) p) ∧ Hid (OK encI 1 3 wr w.heap.size (.slice A2 m2 c2) us)) (fun pv _ uv _ => 2 * (n - lenV uv) + lenV pv)
  case atStart =>
    have h1 : OK encE 4 47 ((w.alloc (.cells #[] 47)).alloc (.cells #[] 3)) w.heap.size (.slice (some ⟨w.heap.size, 0, none⟩) 0 0) [] := OK.alloc ⟨by simp, World.ownsRow_lit w #[] 0 (by omega) (by decide) rfl⟩ _
    have h2' : OK encI 1 3 ((w.alloc (.cells #[] 47)).alloc (.cells #[] 3)) (w.alloc (.cells #[] 47)).heap.size (.slice (some ⟨(w.alloc (.cells #[] 47)).heap.size, 0, none⟩) 0 0) [] := ⟨by simp, World.ownsRow_lit (w.alloc (.cells #[] 47)) #[] 0 (by omega) (by decide) rfl⟩
    have h2 := h2'.base (B' := w.heap.size) (by simp)
    refine ⟨_, 0, 0, _, 0, 0, u, [], [], rfl, rfl, rfl, Lib.hid rfl, Lib.hid rfl, Lib.hid (dfs_start es u v), Lib.hid (((Below.refl _ _).alloc (Nat.le_refl _) _).alloc (by simp) _), Lib.hid (by simpa using h1), Lib.hid (by simpa using h2)⟩
  case round =>
    obtain ⟨A1, m1, c1, A2, m2, c2, a, p, us, rfl, rfl, rfl, HM1, HM2, HD, HB, HP, HU⟩ := hrel
    have hz := HB.out.size
    have HLN := Lib.hid HD.out.lens
    have hm1 : m1 ≤ n := by have := HM1.out; have := HLN.out; have := HN.out; omega
    have hm2 : m2 ≤ n := by have := HM2.out; have := HLN.out; have := HN.out; omega
    by_cases hav : a = v
    · subst hav
      have hd : (a != a) = false := by simp
      go_wp2_with fail
      go_ret2
      exact ⟨_, true, p, rfl, HB.out, HP.out, by rw [if_pos rfl]; exact ⟨HD.out.trl, HD.out.nd, by have := HLN.out; have := HN.out; omega⟩⟩
    · have hd : (a != v) = true := by simpa using hav
      have HAV := Lib.hid hav
      clear hav
      have HR := Lib.hid (HU.out.rk (B' := wr.heap.size) encI_len (Nat.le_refl _))
      obtain ⟨Wo, hWo⟩ : ∃ W, W = wr := ⟨_, rfl⟩
      rw [← hWo] at HB HP HU HR hz ⊢
      clear hWo wr
      go_wp2_with fail
      go_loopw [11, 12] (fun f i wr => ∃ k : Nat, k ≤ n ∧ i = .int .i64 k ∧ wr = Wo ∧ ((f = .int .i64 (-1) ∧ Hid (∀ e ∈ es.take k, ¬ Cand us a e)) ∨ ∃ j : Nat, j < k ∧ f = .int .i64 j ∧ Hid (∃ h : j < es.length, Cand us a es[j]))) (fun _ i _ => n - (intOf i).toNat)
      case atStart => exact ⟨0, Nat.zero_le _, rfl, rfl, .inl ⟨rfl, Lib.hid (by simp)⟩⟩
      case round =>
        obtain ⟨k, hk, rfl, hwr, hcase⟩ := hrel
        rw [hwr]
        clear hwr
        by_cases hkn : k < n
        · have hkd : decide ((k : Int) < (n : Int)) = true := by simpa using hkn
          have hk2 : (k : Int) < (n : Int) := by omega
          rcases hcase with ⟨rfl, HT⟩ | ⟨j, hj, rfl, HJ⟩
          · have hkv : k < es.length := by have := HN.out; omega
            obtain ⟨b1, o1, rfl, hb1, hx⟩ := HC.out k hkv
            obtain ⟨⟨id, p1, p2, p3⟩, hy⟩ : ∃ y, y = es[k] := ⟨_, rfl⟩
            have HTK := Lib.hid (List.take_succ_eq_append_getElem hkv)
            rw [← hy] at hx HTK
            have HY : Hid (∃ h : k < es.length, es[k] = (⟨id, p1, p2, p3⟩ : Ed)) := Lib.hid ⟨hkv, hy.symm⟩
            obtain ⟨x0, x1, x2, -⟩ := cellE hx
            dsimp only at x0 x1 x2
            have x0 := (HB.out.cell (p := ⟨b1, o1 + k * 4, none⟩) hb1).trans x0
            have x1 := (HB.out.cell (p := ⟨b1, o1 + k * 4 + 1, none⟩) hb1).trans x1
            have x2 := (HB.out.cell (p := ⟨b1, o1 + k * 4 + 2, none⟩) hb1).trans x2
            clear hx hy
            have HNO : Hid (¬ Cand us a ⟨id, p1, p2, p3⟩ → ∀ e ∈ es.take (k + 1), ¬ Cand us a e) := Lib.hid fun hc e he => by
              rw [HTK.out] at he
              rcases List.mem_append.1 he with he | he
              · exact HT.out e he
              · rw [List.mem_singleton.1 he]; exact hc
            by_cases hp1 : p1 = a
            · subst hp1
              have hq1 : (p1 == p1) = true := by simp
              go_wp2_with fail
              refine (has01_any _ us Wo _ HR.out id).mono ?_
              by_cases hin : id ∈ us
              · rw [decide_eq_true hin]
                rintro r wx ⟨rfl, hwx⟩
                rw [hwx]
                clear hwx wx
                go_wp2_with fail
                go_roundw
                case rel => exact ⟨k + 1, by omega, by go_num, by first | rfl | trivial, .inl ⟨rfl, Lib.hid (HNO.out fun hc => hc.2 hin)⟩⟩
                case measure => simp [intOf]; omega
              · rw [decide_eq_false hin]
                rintro r wx ⟨rfl, hwx⟩
                rw [hwx]
                clear hwx wx
                go_wp2_with fail
                go_roundw
                case rel => exact ⟨k + 1, by omega, by go_num, by first | rfl | trivial, .inr ⟨k, by omega, rfl, Lib.hid (by obtain ⟨h, e⟩ := HY.out; exact ⟨h, by rw [e]; exact ⟨.inl rfl, hin⟩⟩)⟩⟩
                case measure => simp [intOf]; omega
            · have hq1 : (p1 == a) = false := by simpa using hp1
              by_cases hp2 : p2 = a
              · subst hp2
                have hq2 : (p2 == p2) = true := by simp
                go_wp2_with fail
                refine (has01_any _ us Wo _ HR.out id).mono ?_
                by_cases hin : id ∈ us
                · rw [decide_eq_true hin]
                  rintro r wx ⟨rfl, hwx⟩
                  rw [hwx]
                  clear hwx wx
                  go_wp2_with fail
                  go_roundw
                  case rel => exact ⟨k + 1, by omega, by go_num, by first | rfl | trivial, .inl ⟨rfl, Lib.hid (HNO.out fun hc => hc.2 hin)⟩⟩
                  case measure => simp [intOf]; omega
                · rw [decide_eq_false hin]
                  rintro r wx ⟨rfl, hwx⟩
                  rw [hwx]
                  clear hwx wx
                  go_wp2_with fail
                  go_roundw
                  case rel => exact ⟨k + 1, by omega, by go_num, by first | rfl | trivial, .inr ⟨k, by omega, rfl, Lib.hid (by obtain ⟨h, e⟩ := HY.out; exact ⟨h, by rw [e]; exact ⟨.inr rfl, hin⟩⟩)⟩⟩
                  case measure => simp [intOf]; omega
              · have hq2 : (p2 == a) = false := by simpa using hp2
                go_wp2_with fail
                go_roundw
                case rel => exact ⟨k + 1, by omega, by go_num, by first | rfl | trivial, .inl ⟨rfl, Lib.hid (HNO.out fun hc => hc.1.elim hp1 hp2)⟩⟩
                case measure => simp [intOf]; omega
          · have hj0 : decide ((j : Int) < 0) = false := by simp
            go_wp2_with fail
            go_roundw
            case rel => exact ⟨k + 1, by omega, by go_num, by first | rfl | trivial, .inr ⟨j, by omega, rfl, HJ⟩⟩
            case measure => simp [intOf]; omega
        · obtain rfl : k = n := by omega
          have hkd : decide ((k : Int) < (k : Int)) = false := by simp
          have HLo := Lib.hid HU.out.lt
          have HLp := Lib.hid HP.out.lt
          rcases hcase with ⟨rfl, HT⟩ | ⟨j, hj, rfl, HJ⟩
          · have HDN : Hid (Used es us a) := Lib.hid (by
              have := HT.out
              rw [List.take_of_length_le (by have := HN.out; omega)] at this
              exact done_of this)
            by_cases hp : p = []
            · subst hp
              obtain rfl : m1 = 0 := HM1.out
              go_wp2_with fail
              go_ret2
              exact ⟨_, false, [], rfl, HB.out, OK.nil _ _, by rw [if_neg (by decide)]; exact ⟨rfl, HD.out.no HUP.out HINV.out HUV.out HVV.out HAV.out HDN.out⟩⟩
            · have hpe := (List.dropLast_concat_getLast hp).symm
              obtain ⟨q, hq⟩ : ∃ q, q = p.dropLast := ⟨_, rfl⟩
              obtain ⟨⟨id, p1, p2, p3⟩, he⟩ : ∃ e, e = p.getLast hp := ⟨_, rfl⟩
              rw [← hq, ← he] at hpe
              clear hq he hp
              subst hpe
              obtain ⟨j, hj⟩ : ∃ j, j = q.length := ⟨_, rfl⟩
              obtain rfl : m1 = j + 1 := by have := HM1.out; rw [this, hj]; simp
              obtain ⟨fb, fc, hsh, hfc, -⟩ := HP.out.shape (by simp)
              injection hsh with hs1 hs2 hs3
              subst hs1 hs3
              have hfc2 : j + 1 ≤ c1 := by have := hfc; simp at this; omega
              have hgl : (q ++ [(⟨id, p1, p2, p3⟩ : Ed)])[j]? = some ⟨id, p1, p2, p3⟩ := by rw [hj]; simp
              have x0 := HP.out.cellK encE_len (i := j) (j := 0) hgl rfl
              have x1 := HP.out.cellK encE_len (i := j) (j := 1) hgl rfl
              have x2 := HP.out.cellK encE_len (i := j) (j := 2) hgl rfl
              have x3 := HP.out.cellK encE_len (i := j) (j := 3) hgl rfl
              dsimp only [Nat.add_zero] at x0 x1 x2 x3
              have HSH := Lib.hid (HP.out.shrink encE_len)
              have HJ := Lib.hid hj
              have HPOP := Lib.hid (HD.out.pop HAV.out HDN.out)
              have hj1 : j ≤ 100000 := by omega
              have d0 : ((j : Int) + 1 == 0) = false := by simp; omega
              have d1 : IntKind.i64.wrap (j : Int) = (j : Int) := by rw [IntKind.wrap_i64]; omega
              have d2 : (j : Int) < (j : Int) + 1 := by omega
              have d3 : (j : Int) ≤ (c1 : Int) := by omega
              have d4 : j ≤ c1 := by omega
              clear hgl hj hs2 hfc
              go_wp2_with fail
              refine (other06_any _ ⟨id, p1, p2, p3⟩ a).mono ?_
              rintro r w7 ⟨rfl, b7⟩
              have B7 := Lib.hid b7
              clear b7
              go_wp2_with fail
              go_roundw
              case rel =>
                refine ⟨_, j, c1, A2, m2, c2, _, q, us, rfl, rfl, rfl, HJ, HM2, HPOP, Lib.hid (HB.out.trans (B7.out.mono hz)), Lib.hid ?_, Lib.hid (HU.out.below B7.out)⟩
                have := HSH.out.below B7.out
                rwa [List.dropLast_concat] at this
              case measure => first | (simp [lenV]; done) | (simp [lenV]; omega)
          · obtain ⟨b1, o1, rfl, hb1, hx⟩ : ∃ b1 o1, A = some ⟨b1, o1, none⟩ ∧ b1 < w.heap.size ∧ ∀ (i : Nat) u, (encE (es[j]'HJ.out.1))[i]? = some u → w.cell? ⟨b1, o1 + j * 4 + i, none⟩ = some u := HC.out j HJ.out.1
            obtain ⟨⟨id, p1, p2, p3⟩, hy⟩ : ∃ y, y = es[j]'HJ.out.1 := ⟨_, rfl⟩
            have HMEM : Hid ((⟨id, p1, p2, p3⟩ : Ed) ∈ es) := Lib.hid (by rw [hy]; exact List.getElem_mem HJ.out.1)
            have HCA : Hid (Cand us a ⟨id, p1, p2, p3⟩) := Lib.hid (by rw [hy]; exact HJ.out.2)
            rw [← hy] at hx
            obtain ⟨z0, z1, z2, z3⟩ := cellE hx
            dsimp only at z0 z1 z2 z3
            have HXS : Hid (∀ W', Below w.heap.size w W' → W'.cell? ⟨b1, o1 + j * 4, none⟩ = some (.int .i64 id) ∧ W'.cell? ⟨b1, o1 + j * 4 + 1, none⟩ = some (.int .i64 p1) ∧ W'.cell? ⟨b1, o1 + j * 4 + 2, none⟩ = some (.int .i64 p2) ∧ W'.cell? ⟨b1, o1 + j * 4 + 3, none⟩ = some (.int .i64 (p3 : Int))) := Lib.hid fun W' hb => ⟨(hb.cell (p := ⟨b1, o1 + j * 4, none⟩) hb1).trans z0, (hb.cell (p := ⟨b1, o1 + j * 4 + 1, none⟩) hb1).trans z1, (hb.cell (p := ⟨b1, o1 + j * 4 + 2, none⟩) hb1).trans z2, (hb.cell (p := ⟨b1, o1 + j * 4 + 3, none⟩) hb1).trans z3⟩
            clear z0 z1 z2 z3 hx hy
            obtain ⟨x0, x1, x2, x3⟩ := HXS.out _ HB.out
            have HPUSH := Lib.hid (HD.out.push HND.out HAV.out HMEM.out HCA.out.1 HCA.out.2)
            have HPL := Lib.hid HPUSH.out.lens
            have HL1 : Hid (us.length + 1 ≤ 1000000) := Lib.hid (by have := HM2.out; omega)
            have HL2 : Hid (p.length + 1 ≤ 1000000) := Lib.hid (by have := HM1.out; omega)
            have HZ := Lib.hid hz
            have HG1 : Hid (∀ o w5, (Wo.alloc o).grownBy w5 (Value.slice A2 m2 c2).ownBlock → Below w.heap.size w w5 ∧ OK encE 4 47 w5 w.heap.size (.slice A1 m1 c1) p ∧ w.heap.size ≤ w5.heap.size) := Lib.hid fun o w5 hg => by
              have hb5 := (HB.out.alloc (o := o) HZ.out).grown hg (by simp; have := HZ.out; omega) (fun q hq => (HLo.out q hq).1)
              exact ⟨hb5, (HP.out.alloc o).kept hg (own_ne (HP.out.alloc o) (HU.out.alloc o) (by decide)), hb5.size⟩
            have hj0 : decide ((j : Int) ≥ 0) = true := by simp
            have hjn : (j : Int) < (k : Int) := by omega
            go_wp2_with (first
              | (at_builtin; refine wpList_app1 etInts encI_len encI_one (y := id) rfl (.tmp 58) (.tmp 64) rfl rfl (HU.out.alloc _) Wo.heap.size rfl (oneI Wo id _) HL1.out (by simp; have := HZ.out; omega) ?_; intro v5 w5 ho5 hg5 hb5; have HU5 := Lib.hid ho5; have HB5 := Lib.hid (HG1.out _ _ hg5).1; have HP5 := Lib.hid (HG1.out _ _ hg5).2.1; have HZ5 := Lib.hid (HG1.out _ _ hg5).2.2; have HLp5 := Lib.hid HP5.out.lt; clear x0 x1 x2 x3 ho5 hg5 hb5; obtain ⟨x0, x1, x2, x3⟩ := HXS.out _ HB5.out)
              | (at_builtin; refine wpList_app1 etEdges encE_len encE_one (y := (⟨id, p1, p2, p3⟩ : Ed)) rfl (.tmp 66) (.tmp 71) rfl rfl (HP5.out.alloc _) w5.heap.size rfl (oneE w5 ⟨id, p1, p2, p3⟩ _) HL2.out (by simp; have := HZ5.out; omega) ?_; intro v6 w6 ho6 hg6 hb6; have HP6 := Lib.hid ho6; have HB6 := Lib.hid ((HB5.out.alloc HZ5.out _).grown hg6 (by simp; have := HZ5.out; omega) (fun q hq => (HLp5.out q hq).1)); have HU6 := Lib.hid ((HU5.out.alloc _).kept hg6 (own_ne HU5.out HP5.out (by decide))); clear x0 x1 x2 x3 ho6 hg6 hb6; obtain ⟨x0, x1, x2, x3⟩ := HXS.out _ HB6.out))
            refine (other06_any _ ⟨id, p1, p2, p3⟩ a).mono ?_
            rintro r w7 ⟨rfl, b7⟩
            have B7 := Lib.hid b7
            clear b7
            obtain ⟨A5, c5, hv5, -, -, -, -⟩ := (HU6.out.rk encI_len (Nat.le_refl _)).open_
            obtain ⟨A6, c6, hv6, -, -, -, -⟩ := (HP6.out.rk encE_len (Nat.le_refl _)).open_
            obtain ⟨n5, hn5⟩ : ∃ n, n = (us ++ [id]).length := ⟨_, rfl⟩
            obtain ⟨n6, hn6⟩ : ∃ n, n = (p ++ [(⟨id, p1, p2, p3⟩ : Ed)]).length := ⟨_, rfl⟩
            rw [← hn5] at hv5
            rw [← hn6] at hv6
            have HN5 := Lib.hid hn5
            have HN6 := Lib.hid hn6
            clear hn5 hn6
            subst hv5 hv6
            go_wp2_with fail
            go_roundw
            case rel => exact ⟨A6, n6, c6, A5, n5, c5, _, p ++ [⟨id, p1, p2, p3⟩], us ++ [id], rfl, rfl, rfl, HN6, HN5, HPUSH, Lib.hid (HB6.out.trans (B7.out.mono HB6.out.size)), Lib.hid (HP6.out.below B7.out), Lib.hid (HU6.out.below B7.out)⟩
            case measure =>
              have h1 := HPL.out.1
              have h2 := HM1.out
              have h3 := HM2.out
              have h4 := HN.out
              have h5 := HN5.out
              have h6 := HN6.out
              simp at h1 h5 h6
              simp only [lenV]
              omega

end Go.Proofs.YtghacfhpafbdmaaGreat

/-
  The walks of skeinref06's path, Path and Along.
-/
namespace Go.Proofs.YtghacfhpafbdmaaGreat
open Go.RowKit
set_option linter.unusedVariables false

/-- The path's edges, none where there is none. -/
def pth (V : List Int) (E : List Ed) (u v : Int) : List Ed := if pathErr V E u v = 0 then pathL V E u v else []

theorem pth_chk {V : List Int} {E : List Ed} {u v : Int} (h : chkV V E [u, v] ≠ 0) : pathErr V E u v = chkV V E [u, v] ∧ pth V E u v = [] := by
  have e : pathErr V E u v = chkV V E [u, v] := by unfold pathErr; rw [if_neg h]
  exact ⟨e, by unfold pth; rw [e, if_neg h]⟩

theorem pth_no {V : List Int} {E : List Ed} {u v : Int} (h : chkV V E [u, v] = 0) (hk : pathK V E u v = false) : pathErr V E u v = 61 ∧ pth V E u v = [] := by
  have e : pathErr V E u v = 61 := by unfold pathErr; rw [if_pos h, hk]; rfl
  exact ⟨e, by unfold pth; rw [e, if_neg (by decide)]⟩

theorem pth_yes {V : List Int} {E : List Ed} {u v : Int} (h : chkV V E [u, v] = 0) (hk : pathK V E u v = true) : pathErr V E u v = 0 ∧ pth V E u v = pathL V E u v := by
  have e : pathErr V E u v = 0 := by unfold pathErr; rw [if_pos h, hk]; rfl
  exact ⟨e, by unfold pth; rw [e, if_pos rfl]⟩

set_option maxRecDepth 100000 in
set_option maxHeartbeats 4000000 in
theorem refpath_any (sv se : Value) (V : List Int) (E : List Ed) (u v : Int) (w : World) (B : Nat) (hv : RI w B sv V) (he : RE w B se E) (hB : B ≤ w.heap.size) :
    Calls Tryz.prog 54 #[netV sv se, .int .i64 u, .int .i64 v] w fun e w' => ∃ lv, e = .returned (.tuple #[lv, .int .i64 (pathErr V E u v)]) ∧ OK encE 4 47 w' w.heap.size lv (pth V E u v) ∧ Below w.heap.size w w' := by
  have HV := Lib.hid hv
  have HE := Lib.hid he
  clear hv he
  obtain ⟨c, hc⟩ : ∃ c, c = chkV V E [u, v] := ⟨_, rfl⟩
  obtain ⟨pe, hpe⟩ : ∃ c, c = pathErr V E u v := ⟨_, rfl⟩
  obtain ⟨pp, hpp⟩ : ∃ c, c = pth V E u v := ⟨_, rfl⟩
  rw [← hpe, ← hpp]
  have HC := Lib.hid hc
  have HPE := Lib.hid hpe
  have HPP := Lib.hid hpp
  clear hc hpe hpp
  go_enter Tryz.func54, Tryz.ntmps54
  go_wp2_with fail
  refine (ask_chk _ _ _ V E [u, v] _ (w.heap.size + 2) (((HV.out.alloc hB _).alloc (by simp; omega) _).more (by omega)) (((HE.out.alloc hB _).alloc (by simp; omega) _).more (by omega)) (RI.lit _ _ _ _ _ [u, v] 2 2 (by simp) rfl rfl (by simp) (by simp) (by simp) (by omega)) (by simp)).mono ?_
  rw [← HC.out]
  rintro e w1 ⟨rfl, hb⟩
  have HNb : Hid (Blk w1 w.heap.size 25 #[sv, se]) := Lib.hid (((Blk.new w 25 #[sv, se]).alloc _).below hb (by simp; omega))
  have HB1 : Hid (Below w.heap.size w w1) := Lib.hid ((((Below.refl _ _).alloc (Nat.le_refl _) _).alloc (by simp) _).trans (hb.mono (by simp; omega)))
  clear hb
  have hz1 := HNb.out.lt
  have c0 := HNb.out.cell 0
  have c1 := HNb.out.cell 1
  by_cases h0 : c = 0
  · have hcd : (c != 0) = false := by simpa using h0
    have HC0 : Hid (chkV V E [u, v] = 0) := Lib.hid (by rw [← HC.out]; exact h0)
    obtain ⟨hn, hm⟩ := chk_zero HC0.out
    have HR := Lib.hid (right_of hn)
    have HU := Lib.hid (hm u (by simp))
    have HVV := Lib.hid (hm v (by simp))
    clear hn hm h0
    go_wp2_with fail
    refine (Taken_any _ _ V E _ B (HV.out.below (HB1.out.mono hB)) (HE.out.below (HB1.out.mono hB)) (by omega) HR.out).mono ?_
    rintro e w2 ⟨x, rfl, ho, hb2⟩
    have HB2 : Hid (Below w.heap.size w w2) := Lib.hid (HB1.out.trans (hb2.mono (by omega)))
    have HF := Lib.hid (ho.rk (B' := w2.heap.size) encE_len (Nat.le_refl _))
    clear ho hb2 c0 c1
    go_wp2_with fail
    refine (way06_any _ _ (forE V E) V u v HR.out.vup (fun e he => ⟨HR.out.eu e (forE_sub V E e he), HR.out.ev e (forE_sub V E e he)⟩) HU.out HVV.out HF.out (forE_ids HR.out) (by have := forE_len V E; have := HR.out.elen; omega)).mono ?_
    rintro e w3 ⟨y, ok, p, rfl, hb3, ho3, hp⟩
    have HB3 : Hid (Below w.heap.size w w3) := Lib.hid (HB2.out.trans (hb3.mono HB2.out.size))
    have HO3 := Lib.hid (ho3.base HB2.out.size)
    clear hb3 ho3
    cases ok with
    | true =>
      rw [if_pos rfl] at hp
      obtain ⟨hk, hpe⟩ := way_path HR.out HU.out HVV.out hp.1 hp.2.1
      obtain ⟨q1, q2⟩ := pth_yes HC0.out hk
      have HQ1 : Hid (pe = 0) := Lib.hid (by rw [HPE.out, q1])
      have HQ2 : Hid (pp = p) := Lib.hid (by rw [HPP.out, q2, hpe])
      clear hp hk hpe q1 q2
      go_wp2_with fail
      go_ret2
      exact ⟨_, by rw [HQ1.out]; rfl, by rw [HQ2.out]; exact HO3.out, HB3.out⟩
    | false =>
      rw [if_neg (by decide)] at hp
      obtain ⟨q1, q2⟩ := pth_no HC0.out (way_none HR.out HU.out HVV.out hp.2)
      have HQ1 : Hid (pe = 61) := Lib.hid (by rw [HPE.out, q1])
      have HQ2 : Hid (pp = []) := Lib.hid (by rw [HPP.out, q2])
      clear hp q1 q2
      go_wp2_with fail
      go_ret2
      exact ⟨_, by rw [HQ1.out]; rfl, by rw [HQ2.out]; exact OK.nil _ _, HB3.out⟩
  · have hcd : (c != 0) = true := by simpa using h0
    have HQ : Hid (pe = c ∧ pp = []) := Lib.hid (by rw [HPE.out, HPP.out, HC.out]; exact pth_chk (by rw [← HC.out]; exact h0))
    clear c0 c1
    go_wp2_with fail
    go_ret2
    exact ⟨_, by rw [HQ.out.1]; rfl, by rw [HQ.out.2]; exact OK.nil _ _, HB1.out⟩

set_option maxRecDepth 100000 in
set_option maxHeartbeats 4000000 in
theorem refPath_any (sv se : Value) (V : List Int) (E : List Ed) (u v : Int) (w : World) (B : Nat) (hv : RI w B sv V) (he : RE w B se E) (hB : B ≤ w.heap.size) (hl : (pth V E u v).length ≤ 100000) :
    Calls Tryz.prog 20 #[netV sv se, .int .i64 u, .int .i64 v] w fun e w' => ∃ lv, e = .returned (.tuple #[lv, .int .i64 (pathErr V E u v)]) ∧ OK encI 1 3 w' w.heap.size lv ((pth V E u v).map (·.id)) ∧ Below w.heap.size w w' := by
  have HV := Lib.hid hv
  have HE := Lib.hid he
  clear hv he
  obtain ⟨pe, hpe⟩ : ∃ c, c = pathErr V E u v := ⟨_, rfl⟩
  obtain ⟨pp, hpp⟩ : ∃ c, c = pth V E u v := ⟨_, rfl⟩
  rw [← hpp] at hl
  rw [← hpe, ← hpp]
  have HPE := Lib.hid hpe
  have HPP := Lib.hid hpp
  clear hpe hpp
  go_enter Tryz.func20, Tryz.ntmps20
  go_wp2_with fail
  refine (refpath_any _ _ V E u v _ w.heap.size ((HV.out.alloc hB _).more hB) ((HE.out.alloc hB _).more hB) (by simp)).mono ?_
  rw [← HPE.out, ← HPP.out]
  rintro e Wo ⟨x, rfl, ho, hb⟩
  have HBo : Hid (Below w.heap.size w Wo) := Lib.hid (((Below.refl _ _).alloc (Nat.le_refl _) _).trans (hb.mono (by simp)))
  have hzo := HBo.out.size
  obtain ⟨As, cs, rfl, -, -, -, HD⟩ := (ho.rk (B' := Wo.heap.size) encE_len (Nat.le_refl _)).open_
  obtain ⟨m, hm⟩ : ∃ m, m = pp.length := ⟨_, rfl⟩
  rw [← hm] at hl ⊢
  have HM := Lib.hid hm
  clear ho hb hm
  go_wp2_with fail
  go_loopw [10, 11] (fun t i wr => ∃ (A6 : Option Addr) (m6 c6 k : Nat), k ≤ m ∧ t = .slice A6 m6 c6 ∧ i = .int .i64 k ∧ Hid (Below Wo.heap.size Wo wr) ∧ Hid (OK encI 1 3 wr Wo.heap.size (.slice A6 m6 c6) ((pp.map (·.id)).take k))) (fun _ i _ => m - (intOf i).toNat)
  case atStart => exact ⟨_, _, _, 0, Nat.zero_le _, rfl, rfl, Lib.hid ((Below.refl _ _).alloc (Nat.le_refl _) _), Lib.hid ⟨by simp, World.ownsRow_lit Wo #[] 0 (by omega) (by decide) rfl⟩⟩
  case round =>
    obtain ⟨A6, m6, c6, k, hk, rfl, rfl, HB, HO⟩ := hrel
    have hz := HB.out.size
    by_cases hkm : k < m
    · have hkv : k < pp.length := by have := HM.out; omega
      obtain ⟨b2, o2, rfl, hb2, hx⟩ := HD.out k hkv
      obtain ⟨⟨id, p, q, wt⟩, hy⟩ : ∃ y, y = pp[k] := ⟨_, rfl⟩
      have HTK : Hid ((pp.map (·.id)).take (k + 1) = (pp.map (·.id)).take k ++ [id]) := Lib.hid (by
        rw [List.take_succ_eq_append_getElem (by simpa using hkv), List.getElem_map, ← hy])
      rw [← hy] at hx
      obtain ⟨x0, -, -, -⟩ := cellE hx
      dsimp only at x0
      have x0 := (HB.out.cell (p := ⟨b2, o2 + k * 4, none⟩) hb2).trans x0
      have hkd : (k : Int) < (m : Int) := by omega
      have HLN : Hid (((pp.map (·.id)).take k).length ≤ k) := Lib.hid (by simp; omega)
      clear hx hy
      go_wp2_with (at_builtin; refine wpList_app1 etInts encI_len encI_one (y := id) rfl (.tmp 26) (.tmp 32) rfl rfl (HO.out.alloc _) wr.heap.size rfl (oneI wr id _) (by have := HLN.out; omega) (by simp; omega) ?_; intro v5 w5 ho5 hg5 hb5; have HO5 := Lib.hid ho5; have HG5 := Lib.hid hg5; clear ho5 hg5 hb5)
      obtain ⟨A9, m9, c9, rfl⟩ := HO5.out.slice3
      go_wp2_with fail
      go_roundw
      case rel => exact ⟨A9, m9, c9, k + 1, by omega, rfl, by go_num, Lib.hid ((HB.out.alloc hz _).grown HG5.out (by simp; omega) (fun q hq => (HO.out.lt q hq).1)), Lib.hid (by rw [HTK.out]; exact HO5.out)⟩
      case measure => simp [intOf]; omega
    · obtain rfl : k = m := by omega
      have hkd : decide ((k : Int) < (k : Int)) = false := by simp
      go_wp2_with fail
      go_ret2
      refine ⟨_, rfl, ?_, HBo.out.trans (HB.out.mono hzo)⟩
      have := HO.out
      rw [List.take_of_length_le (by have := HM.out; simp; omega)] at this
      exact this.base hzo

/-- What Along answers. -/
def alongV (V : List Int) (E : List Ed) (u v : Int) : Value := if pathErr V E u v = 0 then alongT (pathL V E u v) else .tuple #[.agg aggZ, .int .i64 (pathErr V E u v)]

attribute [local go_sem] run_storeC

set_option maxRecDepth 100000 in
set_option maxHeartbeats 4000000 in
theorem refAlong_any (sv se : Value) (V : List Int) (E : List Ed) (u v : Int) (w : World) (B : Nat) (hv : RI w B sv V) (he : RE w B se E) (hB : B ≤ w.heap.size) :
    Calls Tryz.prog 22 #[netV sv se, .int .i64 u, .int .i64 v] w fun e w' => e = .returned (alongV V E u v) ∧ Below w.heap.size w w' := by
  have HV := Lib.hid hv
  have HE := Lib.hid he
  clear hv he
  obtain ⟨pe, hpe⟩ : ∃ c, c = pathErr V E u v := ⟨_, rfl⟩
  obtain ⟨pp, hpp⟩ : ∃ c, c = pth V E u v := ⟨_, rfl⟩
  obtain ⟨av, hav⟩ : ∃ c, c = alongV V E u v := ⟨_, rfl⟩
  rw [← hav]
  have HPE := Lib.hid hpe
  have HPP := Lib.hid hpp
  have HAV := Lib.hid hav
  clear hpe hpp hav
  go_enter Tryz.func22, Tryz.ntmps22
  go_wp2_with fail
  refine (refpath_any _ _ V E u v _ w.heap.size (((HV.out.alloc hB _).alloc (by simp; omega) _).more hB) (((HE.out.alloc hB _).alloc (by simp; omega) _).more hB) (by simp; omega)).mono ?_
  rw [← HPE.out, ← HPP.out]
  rintro e w1 ⟨x, rfl, ho, hb⟩
  have hgr : Blk w1 (w.heap.size + 1) 50 aggZ := by
    have h0 : Blk ((w.alloc (.cells #[sv, se] 25)).alloc (.cells aggZ 50)) (w.heap.size + 1) 50 aggZ := by
      have := Blk.new (w.alloc (.cells #[sv, se] 25)) 50 aggZ
      simpa using this
    exact h0.below hb h0.lt
  have HGR := Lib.hid hgr
  have HB1 : Hid (Below w.heap.size w w1) := Lib.hid ((((Below.refl _ _).alloc (Nat.le_refl _) _).alloc (by simp) _).trans (hb.mono (by simp; omega)))
  have hz1 := hgr.lt
  have g0 : w1.cell? ⟨w.heap.size + 1, 0, none⟩ = some (.int .i64 0) := hgr.cell 0
  have g1 : w1.cell? ⟨w.heap.size + 1, 1, none⟩ = some (.int .i64 0) := hgr.cell 1
  have g2 : w1.cell? ⟨w.heap.size + 1, 2, none⟩ = some (.int .i64 0) := hgr.cell 2
  have g3 : w1.cell? ⟨w.heap.size + 1, 3, none⟩ = some (.int .i64 0) := hgr.cell 3
  have g4 : w1.cell? ⟨w.heap.size + 1, 4, none⟩ = some (.complex .f64 0 0) := hgr.cell 4
  have j0 := hgr.frozen 0
  have j1 := hgr.frozen 1
  have j2 := hgr.frozen 2
  have j3 := hgr.frozen 3
  have j4 := hgr.frozen 4
  have HRK := Lib.hid (ho.rk (B' := w1.heap.size) encE_len (Nat.le_refl _))
  clear hb hgr ho
  by_cases h0 : pe = 0
  · have hcd : (pe != 0) = false := by simpa using h0
    have hpz : pathErr V E u v = 0 := by rw [← HPE.out]; exact h0
    have hpq : pp = pathL V E u v := by rw [HPP.out]; unfold pth; rw [if_pos hpz]
    have HAT : Hid (av = alongT pp) := Lib.hid (by rw [HAV.out, hpq]; unfold alongV; rw [if_pos hpz])
    obtain ⟨hck, hR, -, -, hkk, -⟩ := path_known hpz
    have HWW : Hid (∀ e ∈ pp, 0 ≤ e.w ∧ e.w ≤ 1099511627776) := Lib.hid fun e he => hR.ew e (forE_sub V E e (pathL_sub hpz e (by rw [← hpq]; exact he)))
    have HLL : Hid (pp.length ≤ 2048) := Lib.hid (by
      rw [hpq]
      have h1 := (path_trail hR (path_known hpz).2.2.1 (path_known hpz).2.2.2.1 hkk).1
      have h2 := hR.vlen
      have h3 : (pathL V E u v).length ≤ V.length := by unfold pathL; exact Went.back_len (f := plE V) (T := forE V E) (n := V.length) (s := pl V v) _ _
      omega)
    have hsb := sumW_bd pp HWW.out
    have hlb := HLL.out
    have hs0 : 0 ≤ sumW pp := hsb.1
    have hs1 : sumW pp ≤ 2251799813685248 := by have := hsb.2; omega
    obtain ⟨s, hs⟩ : ∃ s, s = sumW pp := ⟨_, rfl⟩
    have HSU : Hid (sumN pp = s.toNat) := Lib.hid (by unfold sumN; rw [hs])
    obtain ⟨n, hn⟩ : ∃ n, n = pp.length := ⟨_, rfl⟩
    obtain ⟨As, cs, hsl, -, -, -, -⟩ := HRK.out.open_
    rw [← hn] at hsl hlb
    subst hsl
    have HSM : Hid (Calls Tryz.prog 56 #[.slice As n cs] w1 fun e w' => e = .returned (.int .i64 s) ∧ w1 = w') := Lib.hid (by rw [hs]; exact Sum_any _ pp w1 _ HRK.out HWW.out HLL.out)
    rw [← hs] at hs0 hs1
    have HN := Lib.hid hn
    have HS := Lib.hid hs
    clear hpz hpq hck hR hkk hsb hn hs h0
    by_cases hbig : 70368744177664 < s
    · have HF : Hid (av = .tuple #[.agg aggZ, .int .i64 62]) := Lib.hid (by rw [HAT.out]; unfold alongT; rw [if_pos (by rw [HSU.out]; omega)])
      go_wp2_with fail
      refine HSM.out.mono ?_
      rintro e w2 ⟨rfl, rfl⟩
      go_wp2_with fail
      have hfin := (((((HGR.out.set_ 0 (.int .i64 0)).set_ 1 (.int .i64 0)).set_ 2 (.int .i64 0)).set_ 3 (.int .i64 0)).set_ 4 (.complex .f64 0 0))
      rw [show aggZ = aggV default (.complex .f64 0 0) from rfl, aggV_set] at hfin
      refine ret_cell_tmp (p := 6) (u := 7) rfl rfl rfl (load_agg hfin) rfl ⟨by rw [HF.out]; rfl, ?_⟩
      exact ((((HB1.out.setCell (by show w.heap.size ≤ w.heap.size + 1; omega) _).setCell (by show w.heap.size ≤ w.heap.size + 1; omega) _).setCell (by show w.heap.size ≤ w.heap.size + 1; omega) _).setCell (by show w.heap.size ≤ w.heap.size + 1; omega) _).setCell (by show w.heap.size ≤ w.heap.size + 1; omega) _
    · have HF : Hid (av = .tuple #[.agg (aggCs (mostL pp) s.toNat n), .int .i64 0]) := Lib.hid (by rw [HAT.out]; unfold alongT; rw [if_neg (by rw [HSU.out]; omega), HSU.out, HN.out])
      go_wp2_with fail
      refine HSM.out.mono ?_
      rintro e w2 ⟨rfl, hw2⟩
      rw [← hw2]
      clear hw2
      go_wp2_with fail
      refine (Most_any _ pp _ _ HRK.out (Nat.le_refl _)).mono ?_
      rintro e w3 ⟨rfl, hb3⟩
      obtain ⟨⟨mi, mu, mv, mw⟩, hm⟩ : ∃ m, m = mostL pp := ⟨_, rfl⟩
      have HF2 : Hid (av = .tuple #[.agg (aggCs ⟨mi, mu, mv, mw⟩ s.toNat n), .int .i64 0]) := Lib.hid (by rw [hm]; exact HF.out)
      rw [← hm]
      clear hm
      have HGR3 := Lib.hid (HGR.out.below hb3 hz1)
      have HB3 := Lib.hid (HB1.out.trans (hb3.mono HB1.out.size))
      have HRK3 := Lib.hid (HRK.out.below hb3)
      clear g0 g1 g2 g3 g4 j0 j1 j2 j3 j4 hb3
      dsimp only
      go_wp2_with fail
      refine (Sum_any _ pp _ _ HRK3.out HWW.out HLL.out).mono ?_
      rw [← HS.out]
      rintro e w4 ⟨rfl, hw4⟩
      rw [← hw4]
      clear hw4
      have g0 : w3.cell? ⟨w.heap.size + 1, 0, none⟩ = some (.int .i64 0) := HGR3.out.cell 0
      have g1 : w3.cell? ⟨w.heap.size + 1, 1, none⟩ = some (.int .i64 0) := HGR3.out.cell 1
      have g2 : w3.cell? ⟨w.heap.size + 1, 2, none⟩ = some (.int .i64 0) := HGR3.out.cell 2
      have g3 : w3.cell? ⟨w.heap.size + 1, 3, none⟩ = some (.int .i64 0) := HGR3.out.cell 3
      have g4 : w3.cell? ⟨w.heap.size + 1, 4, none⟩ = some (.complex .f64 0 0) := HGR3.out.cell 4
      have j0 := HGR3.out.frozen 0
      have j1 := HGR3.out.frozen 1
      have j2 := HGR3.out.frozen 2
      have j3 := HGR3.out.frozen 3
      have j4 := HGR3.out.frozen 4
      have hcv := conv_fl s hs0
      have hck := conv_fl (n : Int) (by omega)
      rw [Int.toNat_natCast] at hck
      go_wp2_with fail
      have hfin := (((((HGR3.out.set_ 0 (.int .i64 mi)).set_ 1 (.int .i64 mu)).set_ 2 (.int .i64 mv)).set_ 3 (.int .i64 mw)).set_ 4 (.complex .f64 (fl s.toNat) (fl n)))
      rw [show aggZ = aggV default (.complex .f64 0 0) from rfl, aggV_set] at hfin
      refine ret_cell_tmp (p := 6) (u := 7) rfl rfl rfl (load_agg hfin) rfl ⟨by rw [HF2.out]; rfl, ?_⟩
      exact ((((HB3.out.setCell (by show w.heap.size ≤ w.heap.size + 1; omega) _).setCell (by show w.heap.size ≤ w.heap.size + 1; omega) _).setCell (by show w.heap.size ≤ w.heap.size + 1; omega) _).setCell (by show w.heap.size ≤ w.heap.size + 1; omega) _).setCell (by show w.heap.size ≤ w.heap.size + 1; omega) _
  · have hcd : (pe != 0) = true := by simpa using h0
    have HF : Hid (av = .tuple #[.agg aggZ, .int .i64 pe]) := Lib.hid (by rw [HAV.out]; unfold alongV; rw [← HPE.out, if_neg h0])
    go_wp2_with fail
    have hfin := (((((HGR.out.set_ 0 (.int .i64 0)).set_ 1 (.int .i64 0)).set_ 2 (.int .i64 0)).set_ 3 (.int .i64 0)).set_ 4 (.complex .f64 0 0))
    rw [show aggZ = aggV default (.complex .f64 0 0) from rfl, aggV_set] at hfin
    refine ret_cell_tmp (p := 6) (u := 7) rfl rfl rfl (load_agg hfin) rfl ⟨by rw [HF.out]; rfl, ?_⟩
    exact ((((HB1.out.setCell (by show w.heap.size ≤ w.heap.size + 1; omega) _).setCell (by show w.heap.size ≤ w.heap.size + 1; omega) _).setCell (by show w.heap.size ≤ w.heap.size + 1; omega) _).setCell (by show w.heap.size ≤ w.heap.size + 1; omega) _).setCell (by show w.heap.size ≤ w.heap.size + 1; omega) _

end Go.Proofs.YtghacfhpafbdmaaGreat
