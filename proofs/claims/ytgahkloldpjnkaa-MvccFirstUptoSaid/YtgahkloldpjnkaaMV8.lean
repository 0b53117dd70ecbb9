/-
  The walk of Touch.
-/
import Derived.Test.YtgahkloldpjnkaaMV4
namespace Go.Proofs.Ytgahkloldpjnkaa
open Go.RowKit Go.Maps
set_option linter.unusedVariables false

/-! ### Rows of elements -/

def encR (r : Rf) : List Value := [.bool r.fst, .int .i64 r.snd]

theorem encR_len (r : Rf) : (encR r).length = 2 := rfl

theorem encR_one (r : Rf) : ∀ u ∈ encR r, u.oneCell' = true := by
  intro u hu
  simp [encR] at hu
  rcases hu with rfl | rfl <;> rfl

abbrev RR := RK encR 2

theorem cellR {w : World} {b off : Nat} {i : Nat} {r : Rf} (h : ∀ (j : Nat) u, (encR r)[j]? = some u → w.cell? ⟨b, off + i * 2 + j, none⟩ = some u) : w.cell? ⟨b, off + i * 2, none⟩ = some (.bool r.fst) ∧ w.cell? ⟨b, off + i * 2 + 1, none⟩ = some (.int .i64 r.snd) :=
  ⟨by have := h 0 _ rfl; simpa using this, h 1 _ rfl⟩

theorem cell_map {w : World} {b n : Nat} {X : KeyX} {p : Value → Prop} {f : X.α → Option Value} (h : MapG X p w b n f) (o : Nat) : w.cell? ⟨b, o, none⟩ = none := by
  obtain ⟨D, ⟨es, clock, h1, _⟩, _⟩ := h
  simp [World.cell?, h1]

theorem tab_no_bool {w : World} {g : Nat} {a b : Int} {m1 m2 : Option Nat} {t : TypeId} (h : Blk w g t #[.int .i64 a, .int .i64 b, .map m1, .map m2]) (o : Nat) (e : Bool) : w.cell? ⟨g, o, none⟩ ≠ some (.bool e) := by
  rw [h.cell]
  match o with
  | 0 => simp
  | 1 => simp
  | 2 => simp
  | 3 => simp
  | _ + 4 => simp

/-- A row of elements lies in none of a table's blocks. -/
theorem MvAt.offR {w : World} {g lb cb : Nat} {bl : Int → Nat} {M : MV} (h : MvAt w g lb cb bl M) {B : Nat} {v : Value} {rs : List Rf} (hv : RR w B v rs) : Off (OwnM g lb cb bl M) v rs := by
  obtain ⟨h1, A, c, rfl, h3, h4, h5⟩ := hv
  rcases h5 with h5 | ⟨b, off, rfl, hb, hc⟩
  · exact .inl h5
  · cases rs with
    | nil => exact .inl rfl
    | cons r rs =>
      obtain ⟨c1, _⟩ := cellR (hc 0 r rfl)
      refine .inr fun b' e => ?_
      injection e with e
      dsimp only at e
      subst e
      obtain ⟨cm, hcm, _⟩ := h.com
      rintro (rfl | rfl | rfl | ⟨n, x, hx, rfl⟩)
      · exact tab_no_bool h.blk _ _ c1
      · rw [cell_map h.live] at c1; cases c1
      · rw [cell_map hcm] at c1; cases c1
      · rw [cell_map (h.sets n x hx)] at c1; cases c1

theorem Touch_none (w : World) (g lb cb : Nat) (bl : Int → Nat) (M : MV) (h : MvAt w g lb cb bl M) (n : Int) (hn : I64 n) (hl : M.live? n = none) (v : Value) :
    Calls Try.prog 19 #[.pointer (some ⟨g, 0, none⟩), .int .i64 n, v] w fun e w' => e = .returned (.int .i64 141) ∧ Below w.heap.size w w' := by
  have a2 : w.cell? ⟨g, 2, none⟩ = some (.map (some lb)) := h.blk.cell 2
  have hM := h.live
  have hv : ((M.live? n).map fun x => txV x.start (bl n)).getD (.agg #[.int .i64 0, .map none]) = .agg #[.int .i64 0, .map none] := by rw [hl]; rfl
  have hs : ((M.live? n).map fun x => txV x.start (bl n)).isSome = false := by rw [hl]; rfl
  have HM := Lib.hid hM
  have HV := Lib.hid hv
  have HS := Lib.hid hs
  clear h hM hv hs hl
  go_enter Try.func19, Try.ntmps19
  go_wp2_with (at_lookup; refine wpList_lookG (X := kI) rfl _ _ _ rfl _ Try.underlying57 (zeroT _) pT_zero lb 8 rfl HM.out n rfl hn _ _ HV.out HS.out ?_)
  go_ret
  exact ⟨rfl, (Below.refl _ _).alloc (Nat.le_refl _) _⟩

theorem sum_set (f : Tx → Nat) : ∀ (l : List Tx) (i : Nat) (x y : Tx), l[i]? = some x → ((l.set i y).map f).sum + f x = (l.map f).sum + f y
  | [], i, x, y, h => by simp at h
  | a :: r, 0, x, y, h => by simp at h; subst h; simp; omega
  | a :: r, i + 1, x, y, h => by
    have := sum_set f r i x y (by simpa using h)
    simp only [List.set_cons_succ, List.map_cons, List.sum_cons]
    omega

theorem mem_set {l : List Tx} {i : Nat} {y z : Tx} (h : z ∈ l.set i y) : z = y ∨ z ∈ l := by
  rcases List.mem_or_eq_of_mem_set h with h | h
  · exact .inr h
  · exact .inl h

theorem live_put' {M : MV} {n : Int} {x y : Tx} (h : M.live? n = some x) (hs : y.start = x.start) : (∀ k z, (M.put n y).live? k = some z → ∃ u, M.live? k = some u ∧ u.start = z.start) ∧ M.hor ≤ (M.put n y).hor := by
  have h1 : ∀ k z, (M.put n y).live? k = some z → ∃ u, M.live? k = some u ∧ u.start = z.start := by
    intro k z hz
    rw [live_put h] at hz
    by_cases hk : k = n
    · subst hk
      rw [if_pos rfl] at hz
      split at hz
      · injection hz with hz
        subst hz
        exact ⟨x, h, hs.symm⟩
      · cases hz
    · rw [if_neg hk] at hz
      exact ⟨z, hz, rfl⟩
  refine ⟨h1, ?_⟩
  rcases hor_get (M.put n y) with e | ⟨k, z, hz, e⟩
  · rw [e]; exact hor_le_last M
  · rw [e]
    obtain ⟨u, hu, hs⟩ := h1 k z hz
    rw [← hs]; exact hor_le hu

theorem touch_at {w w' : World} {g lb cb : Nat} {bl : Int → Nat} {M : MV} (h : MvAt w g lb cb bl M) {n : Int} {x : Tx} (hl : M.live? n = some x) (hat : x.at_ < 0) (rs : List Rf) (hr : ∀ r ∈ rs, I64 r.snd)
    (hM : MapG kR pU w' (bl n) (x.refs.length + rs.length) (fun r : Rf => if r ∈ x.refs ++ rs then some (.agg #[]) else none)) (hm : Mod (fun k => k = bl n) w w') :
    MvAt w' g lb cb bl (M.touch n rs) ∧ (∀ k, OwnM g lb cb bl (M.touch n rs) k → OwnM g lb cb bl M k) := by
  have hne := h.ne
  have ha2 := h.ap2 n x hl
  obtain ⟨cm, hcm, hco⟩ := h.com
  have hT : M.touch n rs = M.put n { x with refs := x.refs ++ rs } := by unfold MV.touch; rw [hl]
  have hlive := live_put (y := { x with refs := x.refs ++ rs }) hl
  obtain ⟨l1, l2, l3⟩ := live_iff.1 hl
  have hxl := live_lt hl
  have hlen : (M.put n { x with refs := x.refs ++ rs }).txns.length = M.txns.length := by simp [MV.put]
  obtain ⟨hlive2, hhor⟩ := live_put' (y := { x with refs := x.refs ++ rs }) hl rfl
  have hspent : M.spent ≤ (M.put n { x with refs := x.refs ++ rs }).spent := by
    have := sum_set (fun x => if x.at_ < 0 then 0 else x.refs.length) M.txns (n - 1).toNat x { x with refs := x.refs ++ rs } l2
    unfold MV.spent MV.put
    dsimp only at this ⊢
    rw [List.length_append] at this
    split at this <;> omega
  have hnums : (M.put n { x with refs := x.refs ++ rs }).nums = M.nums := by
    unfold MV.nums
    rw [hlen]
    congr 1
    refine List.filter_congr fun i _ => ?_
    rw [hlive]
    by_cases hk : (i : Int) + 1 = n
    · rw [if_pos hk, if_pos (by exact l3), hk, hl]; rfl
    · rw [if_neg hk]
  have hlv : ∀ k, ((M.put n { x with refs := x.refs ++ rs }).live? k).map (fun x => txV x.start (bl k)) = (M.live? k).map (fun x => txV x.start (bl k)) := by
    intro k
    rw [hlive]
    by_cases hk : k = n
    · subst hk
      rw [if_pos rfl, if_pos (by exact l3), hl]; rfl
    · rw [if_neg hk]
  rw [hT]
  refine ⟨⟨⟨h.ok.last, ?_, ?_, by rw [hnums]; exact h.ok.few, by rw [hlen]; exact h.ok.count⟩, ?_, ?_, ?_, ⟨cm, (hcm.mod hm (fun e => ha2.2 e.symm)).mono hspent, ?_, ?_⟩, h.ap1, ?_, ?_⟩, ?_⟩
  · intro z hz
    rcases mem_set hz with rfl | hz
    · exact h.ok.tx x (live_mem hl)
    · exact h.ok.tx z hz
  · intro z hz r hr'
    rcases mem_set hz with rfl | hz
    · rcases List.mem_append.1 hr' with h1 | h1
      · exact h.ok.refs x (live_mem hl) r h1
      · exact hr r h1
    · exact h.ok.refs z hz r hr'
  · rw [hlen]; exact h.blk.mod hm (fun e => hne.2.2 n x hl e.symm)
  · exact (h.live.mod hm (fun e => ha2.1 e.symm)).cast fun k _ => (hlv k).symm
  · intro k z hz
    rw [hlive] at hz
    by_cases hk : k = n
    · subst hk
      rw [if_pos rfl, if_pos (by exact l3)] at hz
      injection hz with hz
      subst hz
      exact hM.mono (by simp)
    · rw [if_neg hk] at hz
      exact (h.sets k z hz).mod hm (fun e => hk (h.ap3 k z n x hz hl e))
  · intro r t hrt
    obtain ⟨z, hz, e1, e2⟩ := hco.from_ r t hrt
    obtain ⟨i, hi⟩ := List.getElem?_of_mem hz
    by_cases hin : i = (n - 1).toNat
    · subst hin
      rw [l2] at hi
      injection hi with hi
      subst hi
      exact ⟨_, List.mem_of_getElem? (List.getElem?_set_self (List.getElem?_eq_some_iff.1 l2).1), e1, List.mem_append_left _ e2⟩
    · exact ⟨z, List.mem_of_getElem? (by rw [← hi]; exact List.getElem?_set_ne (Ne.symm hin)), e1, e2⟩
  · intro z hz r hr' hlt
    rcases mem_set hz with rfl | hz
    · have := hor_ok h.ok
      dsimp only at hlt
      omega
    · exact hco.there z hz r hr' (by omega)
  · intro k z hz
    obtain ⟨u, hu, _⟩ := hlive2 k z hz
    exact h.ap2 k u hu
  · intro k z j y hz hy e
    obtain ⟨u, hu, _⟩ := hlive2 k z hz
    obtain ⟨v, hv, _⟩ := hlive2 j y hy
    exact h.ap3 k u j v hu hv e
  · rintro k (e | e | e | ⟨j, y, hy, e⟩)
    · exact .inl e
    · exact .inr (.inl e)
    · exact .inr (.inr (.inl e))
    · obtain ⟨u, hu, _⟩ := hlive2 j y hy
      exact .inr (.inr (.inr ⟨j, u, hu, e⟩))

set_option maxRecDepth 100000 in
set_option maxHeartbeats 1000000 in
theorem Touch_some (w : World) (g lb cb : Nat) (bl : Int → Nat) (M : MV) (h : MvAt w g lb cb bl M) (n : Int) (hn : I64 n) (x : Tx) (hl : M.live? n = some x) (hat : x.at_ < 0) (v : Value) (rs : List Rf) (hv : RR w w.heap.size v rs) (hr : ∀ r ∈ rs, I64 r.snd) (hlen : x.refs.length + rs.length ≤ 4611686018427387904) :
    Calls Try.prog 19 #[.pointer (some ⟨g, 0, none⟩), .int .i64 n, v] w fun e w' => e = .returned (.int .i64 0) ∧ MvAt w' g lb cb bl (M.touch n rs) ∧ Mod (OwnM g lb cb bl M) w w' ∧ ∀ k, OwnM g lb cb bl (M.touch n rs) k → OwnM g lb cb bl M k := by
  have hoff := h.offR hv
  have a2 : w.cell? ⟨g, 2, none⟩ = some (.map (some lb)) := h.blk.cell 2
  have hM := h.live
  have hvv : ((M.live? n).map fun x => txV x.start (bl n)).getD (.agg #[.int .i64 0, .map none]) = .agg #[.int .i64 x.start, .map (some (bl n))] := by rw [hl]; rfl
  have hs : ((M.live? n).map fun x => txV x.start (bl n)).isSome = true := by rw [hl]; rfl
  have hset := h.sets n x hl
  have hsl := hset.lt
  have hown : OwnM g lb cb bl M (bl n) := .inr (.inr (.inr ⟨n, x, hl, rfl⟩))
  obtain ⟨A, c, rfl, hv1, hv2, hv3, HA⟩ := hv.open_
  have HM := Lib.hid hM
  have HV := Lib.hid hvv
  have HS := Lib.hid hs
  have H := Lib.hid h
  have HL := Lib.hid hl
  have HR := Lib.hid hr
  have HOF := Lib.hid hoff
  have HSET := Lib.hid hset
  have HOW := Lib.hid hown
  have hb1 : Blk (w.alloc (.cells #[.int .i64 x.start, .map (some (bl n))] 80)) w.heap.size 80 #[.int .i64 x.start, .map (some (bl n))] := Blk.new _ _ _
  have HB1 := Lib.hid hb1
  clear h hM hvv hs hl hset hv hr hoff hown hb1
  go_enter Try.func19, Try.ntmps19
  go_wp2_with (at_lookup; refine wpList_lookG (X := kI) rfl _ _ _ rfl _ Try.underlying57 (zeroT _) pT_zero lb 8 rfl HM.out n rfl hn _ _ HV.out HS.out ?_)
  go_loopw [24] (fun i wr => ∃ k : Nat, k ≤ rs.length ∧ i = .int .i64 k ∧ Hid (MapG kR pU wr (bl n) (x.refs.length + k) (fun r : Rf => if r ∈ x.refs ++ rs.take k then some (.agg #[]) else none)) ∧ Hid (Blk wr w.heap.size 80 #[.int .i64 x.start, .map (some (bl n))]) ∧ Hid (Mod (fun j => j = bl n) w wr)) (fun i wr => rs.length - (intOf i).toNat)
  case atStart => exact ⟨0, Nat.zero_le _, rfl, Lib.hid ((HSET.out.mod ((Mod.refl (fun _ => False) _).alloc _) id).cast fun r _ => by simp), HB1, Lib.hid ((Mod.refl _ _).alloc _)⟩
  case round =>
    obtain ⟨k, hk, rfl, HMR, HBR, HW⟩ := hrel
    have hwz : w.heap.size < wr.heap.size := HBR.out.lt
    have z1 : wr.cell? ⟨w.heap.size, 1, none⟩ = some (.map (some (bl n))) := HBR.out.cell 1
    by_cases hkl : k < rs.length
    · obtain ⟨b1, o1, rfl, hb, hx⟩ := HA.out k hkl
      have hbn : b1 ≠ bl n := by
        rcases HOF.out with e | e
        · rw [e] at hkl; simp at hkl
        · intro e2; exact e b1 rfl (e2 ▸ HOW.out)
      obtain ⟨hx1, hx2⟩ := cellR hx
      have y1 : wr.cell? ⟨b1, o1 + k * 2, none⟩ = _ := (HW.out.cell hb hbn _).trans hx1
      have y2 : wr.cell? ⟨b1, o1 + k * 2 + 1, none⟩ = _ := (HW.out.cell hb hbn _).trans hx2
      have hi64 := HR.out rs[k] (List.getElem_mem hkl)
      have HTK := Lib.hid (List.take_succ_eq_append_getElem hkl)
      clear hx hx1 hx2
      obtain ⟨r, hr⟩ : ∃ r, r = rs[k] := ⟨_, rfl⟩
      rw [← hr] at y1 y2 hi64 HTK
      clear hr
      obtain ⟨ed, id⟩ := r
      dsimp only at y1 y2 hi64
      have HI64 := Lib.hid hi64
      clear hi64
      have hM1 : MapG kR pU (wr.alloc (.cells #[.bool ed, .int .i64 id] 62)) (bl n) (x.refs.length + k) (fun r : Rf => if r ∈ x.refs ++ rs.take k then some (.agg #[]) else none) := HMR.out.mod ((Mod.refl (fun _ => False) _).alloc _) (fun h => h)
      have HM1 := Lib.hid hM1
      clear hM1
      go_wp2_with (at_mapUpdate; refine wpList_storeG (X := kR) rfl _ _ _ _ rfl _ Try.underlying78 (bl n) (x.refs.length + k) rfl HM1.out (by omega) ⟨ed, id⟩ rfl HI64.out _ rfl ⟨(), rfl⟩ ?_; intro w2 hM2 hT2)
      go_roundw
      case rel =>
        refine ⟨k + 1, by omega, by go_num, Lib.hid ((hM2.mono (by omega)).cast fun r _ => ?_), Lib.hid ((HBR.out.alloc _).grown hT2.grown (by simpa using fun e : w.heap.size = bl n => by omega)), Lib.hid ((HW.out.alloc _).turned hT2 (fun _ => rfl))⟩
        rw [HTK.out, ← List.append_assoc]
        dsimp only
        by_cases h1 : r = Rf.mk ed id
        · subst h1; simp; rfl
        · rw [if_neg h1]
          by_cases h2 : r ∈ x.refs ++ rs.take k
          · rw [if_pos h2, if_pos (List.mem_append_left _ h2)]
          · rw [if_neg h2, if_neg (fun h3 => by rcases List.mem_append.1 h3 with h3 | h3; exact h2 h3; exact h1 (List.mem_singleton.1 h3))]
      case measure => simp [intOf]; omega
    · have e : k = rs.length := by omega
      have HE := Lib.hid e
      clear e
      go_wp2
      go_ret
      have hm := HMR.out
      rw [HE.out, List.take_length] at hm
      obtain ⟨h1, h2⟩ := touch_at H.out HL.out hat rs HR.out hm HW.out
      exact ⟨rfl, h1, HW.out.mono (fun j _ e => e ▸ HOW.out), h2⟩

end Go.Proofs.Ytgahkloldpjnkaa
