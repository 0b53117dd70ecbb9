/-
  Lists of texts in memory; the walks of skeinlaw08's items and of skeinref08.Same.
-/
import Derived.Test.YtknhlbbgjfcjaaaJ15
namespace Go.Proofs.Ytknhlbbgjfcjaaa
open Go.RowKit Go.Maps
set_option linter.unusedVariables false

/-- The value v reads as the texts L, all of it in blocks of which Q holds. -/
structure Txt (w : World) (Q : Nat → Prop) (v : Value) (L : List (List Nat)) (ys : List Sl) : Prop where
  rk : RK encSl 1 w w.heap.size v ys
  len : ys.length = L.length
  at_ : ∀ (j : Nat) y l, ys[j]? = some y → L[j]? = some l → RB w w.heap.size (slV y) l
  off : Off (fun k => ¬ Q k) v ys
  offs : ItemsIn Q ys L
theorem Txt.mod {w w' : World} {Q S : Nat → Prop} {v : Value} {L : List (List Nat)} {ys : List Sl} (h : Txt w Q v L ys) (hm : Mod S w w') (hs : ∀ k, S k → ¬ Q k) : Txt w' Q v L ys :=
  ⟨h.rk.mod hm (h.off.mono hs), h.len, fun j y l h1 h2 => (h.at_ j y l h1 h2).mod hm (h.offs.off hs j y l h1 h2), h.off, h.offs⟩
theorem Txt.below {w w' : World} {Q : Nat → Prop} {v : Value} {L : List (List Nat)} {ys : List Sl} (h : Txt w Q v L ys) (hb : Below w.heap.size w w') : Txt w' Q v L ys := h.mod (Mod.of_below hb (fun _ => False)) (fun _ e => e.elim)
theorem Txt.mono {w : World} {Q Q' : Nat → Prop} {v : Value} {L : List (List Nat)} {ys : List Sl} (h : Txt w Q v L ys) (hq : ∀ k, Q k → Q' k) : Txt w Q' v L ys :=
  ⟨h.rk, h.len, h.at_, h.off.mono fun k hk e => hk (hq k e), h.offs.mono hq⟩
/-- One text's cell. -/
theorem Txt.cell {w : World} {Q : Nat → Prop} {v : Value} {L : List (List Nat)} {ys : List Sl} (h : Txt w Q v L ys) {i : Nat} (hi : i < L.length) :
    ∃ b o c, v = .slice (some ⟨b, o, none⟩) L.length c ∧ b < w.heap.size ∧ ∃ y : Sl, y.2.1 = L[i].length ∧ w.cell? ⟨b, o + i, none⟩ = some (slV y) ∧ RB w w.heap.size (slV y) L[i] := by
  obtain ⟨A, c, e, _, _, _, HA⟩ := h.rk.open_
  have hiy : i < ys.length := by rw [h.len]; exact hi
  obtain ⟨b, o, rfl, hb, hx⟩ := HA.out i hiy
  have hr := h.at_ i _ _ (List.getElem?_eq_getElem hiy) (List.getElem?_eq_getElem hi)
  refine ⟨b, o, c, by rw [e, h.len], hb, ys[i], ?_, ?_, hr⟩
  · obtain ⟨A4, c4, e4, -, -, -, -⟩ := hr.open_
    injection e4
  · have := hx 0 _ rfl
    simpa using this
theorem Txt.open_ {w : World} {Q : Nat → Prop} {v : Value} {L : List (List Nat)} {ys : List Sl} (h : Txt w Q v L ys) : ∃ A c, v = .slice A L.length c := by
  obtain ⟨A, c, e, -, -, -, -⟩ := h.rk.open_
  exact ⟨A, c, by rw [e, h.len]⟩

set_option maxRecDepth 100000 in
set_option maxHeartbeats 1000000 in
theorem items_any (w : World) (p B : Nat) (v : Value) (xs : List Sl) (m : PG) (h : PageAt w p B v xs m) :
    Calls Try.prog 32 #[.pointer (some ⟨p, 0, none⟩)] w fun e w' => ∃ u ys, e = .returned u ∧ Txt w' (fun k => w.heap.size ≤ k ∧ k < w'.heap.size) u m.items ys ∧ Below w.heap.size w w' := by
  have HPG := Lib.hid h
  have hnum := h.ok.num
  obtain ⟨n, hn⟩ : ∃ n, n = m.items.length := ⟨_, rfl⟩
  rw [← hn] at hnum
  have HN := Lib.hid hn
  have hE0 : OK encSl 1 22 (w.alloc (.cells #[] 22)) w.heap.size (.slice (some ⟨w.heap.size, 0, none⟩) 0 0) [] := OK.ofBlk (Blk.new _ _ _) (Nat.le_refl _) rfl (by omega) (Nat.le_refl _) (by simp [maxLen]) rfl rfl
  have HE0 := Lib.hid hE0
  clear h hn hE0
  go_enter Try.func32, Try.ntmps32
  go_wp2_with fail
  go_loopw [3, 4] (fun x i wr => ∃ (k : Nat) (A : Option Addr) (c : Nat) (ys : List Sl), k ≤ n ∧ i = .int .i64 k ∧ x = .slice A k c ∧ ys.length = k ∧ Hid (OK encSl 1 22 wr w.heap.size (.slice A k c) ys) ∧ Hid (∀ (j : Nat) y l, ys[j]? = some y → m.items[j]? = some l → OB wr w.heap.size (slV y) l ∧ (∀ b, (slV y).ownBlock = some b → (Value.slice A k c).ownBlock ≠ some b)) ∧ Hid (Below w.heap.size w wr)) (fun x i wr => n - (intOf i).toNat)
  case atStart => exact ⟨0, _, 0, [], Nat.zero_le _, rfl, rfl, rfl, HE0, Lib.hid (fun j y l hy => by simp at hy), (Below.refl _ _).alloc (Nat.le_refl _) _⟩
  case round =>
    obtain ⟨k, A, c, ys, hk, rfl, rfl, hyl, HO, HI, HB⟩ := hrel
    have HPW := Lib.hid (HPG.out.below HB.out)
    by_cases hlt : k < n
    · have hslot : m.isSlot (k : Int) = true := by rw [slot_iff]; have := HN.out; omega
      have HSL := Lib.hid hslot
      clear hslot
      go_wp2_with fail
      refine (pageLen_n HPW.out HN.out).mono ?_
      rintro e2 w2 ⟨rfl, hw2⟩
      subst w2
      go_wp2_with fail
      refine (pageItem_yes HPW.out HSL.out).mono ?_
      rintro e3 w3 ⟨⟨A3, n3, c3, rfl, ho3, hn3⟩, hb3⟩
      rw [Int.toNat_natCast] at ho3 hn3
      have HO3 := Lib.hid ho3
      have HN3 := Lib.hid hn3
      have HB3 := Lib.hid hb3
      clear ho3 hn3 hb3
      go_wp2_with (at_builtin; go_must (refine wpList_appE etSls encSl_len encSl_one (y := ((A3, n3, c3) : Sl)) rfl (.tmp 20) (.tmp 22) rfl rfl ((HO.out.below HB3.out).alloc _) w3.heap.size rfl (by intro j u hu; rw [(Blk.new w3 _ _).cell j]; simpa [encSl] using hu) (by omega) (by have := HB3.out.size; have := HB.out.size; simp; omega) ?_); intro v4 w4 k1 k2 k3; have hyl4 : (ys ++ [((A3, n3, c3) : Sl)]).length = k + 1 := by { rw [List.length_append, hyl]; rfl }; obtain ⟨A4, c4, rfl, -, -, -, -⟩ := (k1.rk encSl_len (Nat.le_refl _)).open_; rw [hyl4] at k1 k3 ⊢; have K1 := Lib.hid k1; have K2 := Lib.hid k2; have K3 := Lib.hid k3; have HYL := Lib.hid hyl4; clear k1 k2 k3 hyl4)
      go_roundw
      case rel =>
        have hz3 := HB3.out.size
        have hzr := HB.out.size
        have hm4 : Mod (fun q => some q = (Value.slice A k c).ownBlock) wr w4 := ((Mod.of_below HB3.out _).alloc _).trans' (Mod.of_grown K2.out)
        have hki : k < m.items.length := by rw [← HN.out]; exact hlt
        refine ⟨k + 1, A4, c4, _, by omega, by go_num, rfl, HYL.out, K1, Lib.hid (fun j y l hy hl => ?_), ?_⟩
        · by_cases hj : j < k
          · rw [List.getElem?_append_left (by omega)] at hy
            obtain ⟨r1, r2⟩ := HI.out j y l hy hl
            refine ⟨r1.mod hm4 (fun b hb e => r2 b hb e.symm), fun b hb e => ?_⟩
            rcases K3.out with h | h
            · rw [h] at e; exact r2 b hb e
            · rw [h] at e; injection e with e; have := (r1.lt b hb).2; simp at e; omega
          · rw [List.getElem?_append_right (by omega)] at hy
            have hj0 : j - ys.length = 0 := by
              have := (List.getElem?_eq_some_iff.1 hy).1
              simp at this; omega
            rw [hj0] at hy
            simp at hy
            have hjk : j = k := by omega
            subst hjk
            subst hy
            have hlg : m.items.getD j [] = l := by rw [List.getD, hl]; rfl
            have ho := HO3.out
            rw [hlg] at ho
            have ho4 : OB w4 wr.heap.size (.slice A3 n3 c3) l := (ho.alloc (.cells #[.slice A3 n3 c3] 22)).mod (Mod.of_grown K2.out) (fun b hb e => by have h1 := (ho.lt b hb).1; have h2 := (HO.out.lt b e.symm).2; omega)
            refine ⟨ho4.base hzr, fun b hb e => ?_⟩
            have h1 := ho.lt b hb
            rcases K3.out with h | h
            · rw [h] at e; have := (HO.out.lt b e).2; omega
            · rw [h] at e; injection e with e; simp at e; omega
        · exact HB.out.trans (hm4.below hzr fun q e => (HO.out.lt q e.symm).1)
      case measure => simp [intOf]; omega
    · obtain rfl : k = n := by omega
      go_wp2_with fail
      refine (pageLen_n HPW.out HN.out).mono ?_
      rintro e2 w2 ⟨rfl, hw2⟩
      subst w2
      go_wp2_with fail
      go_ret
      refine ⟨_, ys, rfl, ⟨HO.out.rk encSl_len (Nat.le_refl _), by rw [hyl, HN.out], fun j y l hy hl => (HI.out j y l hy hl).1.rbn, .inr fun b hb e => e (HO.out.lt b hb), fun j y l hy hl => .inr fun b hb e => e ((HI.out j y l hy hl).1.lt b hb)⟩, HB.out⟩
end Go.Proofs.Ytknhlbbgjfcjaaa
