/-
  slices.Delete at a row of slices, one element; page's Remove.
-/
import Derived.Test.YtknhlbbgjfcjaaaJ1
import Derived.Test.YtknhlbbgjfcjaaaShelfD
namespace Go.Proofs.Ytknhlbbgjfcjaaa
open Go.RowKit Go.Maps Go.Sort Go.Shelf
set_option linter.unusedVariables false

theorem putRow_blk {α : Type} [Inhabited α] {en : α → Value} {w : World} {g t q : Nat} {cs : Array Value} (h : Blk w g t cs) (d : Array α) : Blk (putRow en (Sort.ahead w q) g 0 d) g t (putCells en 0 d cs) := by
  unfold Blk at h ⊢
  simp [putRow, mapBlock, onCells, Sort.ahead, Array.getElem?_modify, h]
theorem putRow_mod {α : Type} [Inhabited α] {en : α → Value} {w : World} {g q : Nat} (d : Array α) : Mod (fun k => k = g) w (putRow en (Sort.ahead w q) g 0 d) := by
  refine ⟨rfl, rfl, rfl, by simp [putRow, mapBlock, Sort.ahead], fun k hk hn => ?_⟩
  have hn' : ¬ g = k := fun e => hn e.symm
  simp [putRow, mapBlock, Sort.ahead, Array.getElem?_modify, hn']
theorem flat_encSl (xs : List Sl) : xs.flatMap encSl = xs.map slV := by
  induction xs with
  | nil => rfl
  | cons x r ih => rw [List.flatMap_cons, List.map_cons, ih]; rfl
theorem putCells_take (R Z : List Sl) (cur : Array Value) (h : R.length ≤ cur.size) : (putCells slV 0 (R ++ Z).toArray cur).toList.take R.length = R.map slV := by
  apply List.ext_getElem?
  intro j
  rw [List.getElem?_take]
  split
  · rename_i hj
    have hj2 : j < cur.size := by omega
    rw [Array.getElem?_toList]
    simp [putCells, hj, hj2, List.getElem?_append_left hj]
    omega
  · rename_i hj
    rw [List.getElem?_map, List.getElem?_eq_none (by omega)]; rfl
theorem del_any (w : World) (B : Nat) (v : Value) (xs : List Sl) (i : Nat) (h : OK encSl 1 22 w B v xs) (hi : i < xs.length) :
    Calls Try.prog 99 #[v, .int .i64 (i : Int), .int .i64 ((i + 1 : Nat) : Int)] w fun e w' => ∃ v', e = .returned v' ∧ OK encSl 1 22 w' B v' (xs.eraseIdx i) ∧ Mod (fun k => v.ownBlock = some k) w w' ∧ v'.ownBlock = v.ownBlock := by
  obtain ⟨A, c, e, _, _, _, HA⟩ := (h.rk encSl_len (Nat.le_refl _)).open_
  obtain ⟨h1, h2, h3⟩ := h
  rcases h3 with ⟨rfl, hn⟩ | ⟨g, cap, cur, rfl, hB, hg, hnc, hcm, hsz, htk⟩
  · omega
  · obtain ⟨i0, hi0, hz0, hz1, hz2⟩ := info_parts (P := Try.prog) (e := 22) (z := .slice none 0 0) (size := 1) (bytes := 24) (by kernel_rfl)
    have hblk : Blk w g 22 cur := hg
    have hH : Holds slV w g 0 xs.toArray := by
      intro j hj
      have hj' : j < xs.length := by simpa using hj
      obtain ⟨b, o, e', hb, hx⟩ := HA.out j hj'
      injection e with e1
      rw [e'] at e1
      injection e1 with e1
      injection e1 with e1 e2
      subst e1 e2
      refine ⟨?_, hblk.frozen _⟩
      have := hx 0 _ rfl
      simp only [Nat.mul_one, Nat.add_zero] at this
      rw [this]
      simp [hj']
    have hd := AnyE.slices_Delete Try.delS slV (fun _ => rfl) ((none, 0, 0) : Sl) Try.zeroValue22 i0 hi0 hz1 g 0 cap i (i + 1) xs.toArray w hH (by simpa using hnc) (by simpa [maxLen] using hcm) (by omega) (by simp; omega)
    change Calls Try.prog 99 _ _ _ at hd
    simp only [List.size_toArray] at hd
    refine hd.mono ?_
    rintro e2 w' ⟨rfl, q, rfl⟩
    have hlen : (xs.eraseIdx i).length = xs.length - (i + 1 - i) := by rw [List.length_eraseIdx_of_lt hi]; omega
    refine ⟨_, rfl, ⟨by rw [hlen]; omega, ?_, .inr ⟨g, cap, _, by rw [hlen], hB, putRow_blk hblk _, by omega, hcm, by simp [putCells, hsz], ?_⟩⟩, (putRow_mod _).mono (fun k _ e => by subst e; rfl), rfl⟩
    · rw [flat_encSl, List.length_map]; omega
    · rw [flat_encSl]
      have hcs : xs.length ≤ cur.size := by omega
      have he : xs.eraseIdx i = xs.take i ++ xs.drop (i + 1) := List.eraseIdx_eq_take_drop_succ ..
      rw [Nat.mul_one, ← he]
      exact putCells_take _ _ _ (by rw [hlen]; omega)

/-- What a call on a page turns, and where its row lies behind it. -/
structure PgStep (w w' : World) (p : Nat) (v v' : Value) : Prop where
  mod : Mod (fun k => k = p ∨ v.ownBlock = some k) w w'
  own : v'.ownBlock = v.ownBlock ∨ ∀ b, v'.ownBlock = some b → w.heap.size ≤ b
theorem PgStep.refl (w : World) (p : Nat) (v : Value) : PgStep w w p v v := ⟨Mod.refl _ _, .inl rfl⟩
def PG.remove (m : PG) (k : Nat) : PG := { m with items := m.items.eraseIdx k }
theorem mem_erase {α : Type} {l : List α} {k : Nat} {x : α} (h : x ∈ l.eraseIdx k) : x ∈ l := List.mem_of_mem_eraseIdx h
theorem PG.Ok.remove {m : PG} (h : m.Ok) (k : Nat) : (m.remove k).Ok :=
  ⟨by unfold PG.remove; dsimp only; rw [List.length_eraseIdx]; have := h.num; split <;> omega, fun l hl => h.item l (mem_erase hl), h.lsn, h.kind, h.extra⟩
theorem pageRemove_any (w : World) (p B : Nat) (v : Value) (xs : List Sl) (m : PG) (h : PageAt w p B v xs m) (i : Int) :
    Calls Try.prog 37 #[.pointer (some ⟨p, 0, none⟩), .int .i64 i] w fun e w' =>
      (m.isSlot i = false ∧ e = .returned (.int .i64 82) ∧ w' = w) ∨ (m.isSlot i = true ∧ e = .returned (.int .i64 0) ∧ ∃ v', PageAt w' p B v' (xs.eraseIdx i.toNat) (m.remove i.toNat) ∧ PgStep w w' p v v') := by
  have H := Lib.hid h
  cases hs : m.isSlot i with
  | false =>
    clear h
    go_enter Try.func37, Try.ntmps37
    go_wp2_with fail
    refine (pageIsSlot_any w p B v xs m H.out i).mono ?_
    rw [hs]
    rintro e w1 ⟨rfl, rfl⟩
    go_wp2_with fail
    go_ret
    exact .inl ⟨by first | rfl | trivial, rfl, rfl⟩
  | true =>
    obtain ⟨k, rfl⟩ : ∃ k : Nat, i = (k : Int) := ⟨i.toNat, by unfold PG.isSlot at hs; simp at hs; omega⟩
    have hk : k < m.items.length := by unfold PG.isSlot at hs; simp at hs; omega
    obtain ⟨A, c, rfl⟩ := h.open_
    have a3 := h.blk.cell 3
    have hnum := h.ok.num
    clear h
    go_enter Try.func37, Try.ntmps37
    go_wp2_with fail
    refine (pageIsSlot_any w p B _ xs m H.out (k : Int)).mono ?_
    rw [hs]
    rintro e w1 ⟨rfl, rfl⟩
    clear hs
    go_wp2_with fail
    have hdel := del_any w B _ xs k H.out.row (by rw [H.out.len]; exact hk)
    rw [show ((k + 1 : Nat) : Int) = (k : Int) + 1 by omega] at hdel
    refine hdel.mono ?_
    rintro e w2 ⟨v2, rfl, hok, hm2, hown⟩
    have hb2 := H.out.blk.mod hm2 (by intro e; exact H.out.far e)
    have hf2 := hb2.frozen 3
    have hc2 := hb2.cell 3
    obtain ⟨A2, c2, rfl, _, _, _, _⟩ := (hok.rk encSl_len (Nat.le_refl _)).open_
    have HOK := Lib.hid hok
    have HM2 := Lib.hid hm2
    have HOWN := Lib.hid hown
    have HB2 := Lib.hid hb2
    clear hok hm2 hown hb2 hdel a3
    go_wp2_with fail
    go_ret
    have hfar2 : (Value.slice A2 (xs.eraseIdx k).length c2).ownBlock ≠ some p := by rw [HOWN.out]; exact H.out.far
    have hst : Mod (fun q => q = p) w2 (w2.setCell ⟨p, 3, none⟩ (.slice A2 (xs.eraseIdx k).length c2)) := (Mod.refl (fun q => q = p) w2).setCell (p := ⟨p, 3, none⟩) (fun _ => rfl) _
    have hall : Mod (fun q => q = p ∨ (Value.slice A m.items.length c).ownBlock = some q) w (w2.setCell ⟨p, 3, none⟩ (.slice A2 (xs.eraseIdx k).length c2)) :=
      (HM2.out.mono (fun q _ e => .inr e)).trans hst (fun q _ e => .inl e)
    refine .inr ⟨by first | rfl | trivial, rfl, _, ⟨H.out.ok.remove _, HB2.out.set_ 3 _, HOK.out.mod hst (fun b hb e => hfar2 (by rw [hb, e])), ?_, ?_, hfar2, H.out.base⟩, ⟨hall, .inl HOWN.out⟩⟩
    · rw [Int.toNat_natCast]
      unfold PG.remove
      dsimp only
      rw [List.length_eraseIdx, List.length_eraseIdx, H.out.len]
    · rw [Int.toNat_natCast]
      intro j x l hx hl
      unfold PG.remove at hl
      dsimp only at hl
      rw [List.getElem?_eraseIdx] at hx hl
      rw [HOWN.out]
      have key : ∀ q, xs[q]? = some x → m.items[q]? = some l → RB (w2.setCell ⟨p, 3, none⟩ (.slice A2 (xs.eraseIdx k).length c2)) (w2.setCell ⟨p, 3, none⟩ (.slice A2 (xs.eraseIdx k).length c2)).heap.size (slV x) l ∧ Off (fun q => q = p ∨ (Value.slice A m.items.length c).ownBlock = some q) (slV x) l := fun q hq hq2 => by
        obtain ⟨r1, r2⟩ := H.out.item q x l hq hq2
        exact ⟨r1.mod hall r2, r2⟩
      by_cases hjk : j < k
      · rw [if_pos hjk] at hx hl; exact key _ hx hl
      · rw [if_neg hjk] at hx hl; exact key _ hx hl
end Go.Proofs.Ytknhlbbgjfcjaaa
