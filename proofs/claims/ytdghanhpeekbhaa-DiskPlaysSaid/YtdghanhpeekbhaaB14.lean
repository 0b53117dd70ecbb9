/-
  The walks of skeinref01's Spoil and Apart at whole arrays: what a disk's Read answers.
-/
import Derived.Test.YtdghanhpeekbhaaB13
import Derived.ArgAppend
namespace Go.Proofs.Ytdghanhpeekbhaa
open Go.RowKit Go.Maps
set_option linter.unusedVariables false

theorem secs_bb {w : World} {b : Nat} {l : List Nat} (h : Secs w b [l]) : BB w b 85 l := by
  have hl := h.ok l (by simp)
  refine ⟨?_, hl.2, by rw [hl.1]; omega⟩
  have h1 := h.blk
  unfold flat at h1
  simp only [List.flatMap_cons, List.flatMap_nil, List.append_nil] at h1
  exact h1

set_option maxHeartbeats 1000000 in
theorem spoilB_any (w : World) (g : Nat) (t : TypeId) (l : List Nat) (n c : Nat) (hb : BB w g t l) (hn : n = l.length) :
    Calls Try.prog 10 #[.slice (some ⟨g, 0, none⟩) n c] w fun e w' => e = .returned (.tuple #[]) ∧ BB w' g t (turn l) ∧ Mod (fun k => k = g) w w' := by
  have HB := Lib.hid hb
  have HN := Lib.hid hn
  have hlen := hb.len
  have hn5 : n ≤ 140737488355328 := by omega
  clear hb hn hlen
  go_enter Try.func10, Try.ntmps10
  go_wp2
  go_loopw [2] (fun i wr => ∃ k : Nat, k ≤ n ∧ i = .int .i64 k ∧ Hid (BB wr g t (turn (l.take k) ++ l.drop k)) ∧ Hid (Mod (fun k => k = g) w wr)) (fun i wr => n - (intOf i).toNat)
  case atStart => exact ⟨0, Nat.zero_le _, rfl, by simpa [turn] using HB, Lib.hid (Mod.refl _ _)⟩
  case round =>
    obtain ⟨k, hk, rfl, HO, HM⟩ := hrel
    by_cases hlt : k < n
    · have hkl : k < l.length := by have := HN.out; omega
      have hll : (turn (l.take k) ++ l.drop k).length = l.length := by simp [turn]; omega
      have hx := HO.out.cell (i := k) (by omega)
      have hf := HO.out.blk.frozen k
      have hx2 : l[k] < 256 := HB.out.lt _ (List.getElem_mem hkl)
      have e : (turn (l.take k) ++ l.drop k)[k]'(by omega) = l[k] := by
        rw [List.getElem_append_right (by simp [turn]; omega)]
        simp [turn]
        congr 1
        omega
      rw [e] at hx
      have hs := turn_step l k hkl
      have HS := Lib.hid hs
      obtain ⟨x, hx0⟩ : ∃ x, x = l[k] := ⟨_, rfl⟩
      rw [← hx0] at hx hx2 HS
      have hbit : bits BinOp.xor IntKind.u8 (x : Int) 90 = ((x ^^^ 90 : Nat) : Int) := u8_xor_nat x 90 hx2 (by omega)
      have HST : Hid (BB (wr.setCell ⟨g, k, none⟩ (.int .u8 (bits BinOp.xor IntKind.u8 (x : Int) 90))) g t (turn (l.take (k + 1)) ++ l.drop (k + 1)) ∧ Mod (fun k => k = g) w (wr.setCell ⟨g, k, none⟩ (.int .u8 (bits BinOp.xor IntKind.u8 (x : Int) 90)))) := by
        rw [hbit, ← HS.out]
        exact ⟨HO.out.set_ (by omega) (xor90_lt x hx2), HM.out.setCell (p := ⟨g, k, none⟩) (fun _ => rfl) _⟩
      clear e hs hx0 hbit hll
      go_wp2
      go_roundw
      case rel => exact ⟨k + 1, by omega, by go_num, HST.out.1, HST.out.2⟩
      case measure => simp [intOf]; omega
    · obtain rfl : k = n := by omega
      have e : turn (l.take k) ++ l.drop k = turn l := by
        have hn := HN.out
        rw [List.take_of_length_le (by omega), List.drop_of_length_le (by omega), List.append_nil]
      rw [e] at HO
      clear e
      go_wp2
      go_end0
      exact ⟨rfl, HO.out, HM.out⟩

theorem bb_rb {w : World} {g : Nat} {t : TypeId} {l : List Nat} (h : BB w g t l) (hl : l.length = 512) {B : Nat} (hB : g < B) : RB w B (.slice (some ⟨g, 0, none⟩) 512 512) l := by
  have h1 := h.rb (lo := 0) (m := 512) (c := 512) (by omega) (by omega) (by omega) hB
  rw [List.drop_zero, List.take_of_length_le (by omega)] at h1
  exact h1
theorem u8_info : ∃ (i : TypeInfo) (z : Value), Try.prog.info? 5 = some i ∧ i.zero = some z ∧ i.size = 1 ∧ i.bytes = 1 ∧ z.cells.size = 1 := by
  obtain ⟨i, hi, hz0, hz1, hz2⟩ := info_parts (show (Try.prog.info? 5).map (fun i => (i.zero, i.size, i.bytes)) = some (some (.int .u8 0), 1, 1) by kernel_rfl)
  exact ⟨i, _, hi, hz0, hz1, hz2, rfl⟩
theorem turn_lt (l : List Nat) (h : ∀ x ∈ l, x < 256) : ∀ x ∈ turn l, x < 256 := by
  intro x hx
  unfold turn at hx
  obtain ⟨y, hy, rfl⟩ := List.mem_map.1 hx
  exact xor90_lt y (h y hy)
set_option maxRecDepth 100000 in
/-- The first byte behind an array that is full. -/
theorem wpList_appFull {w : World} {g : Nat} {t : TypeId} {l : List Nat} {ops : Array Oper} {rest : List Oper} {o : Oper} {a : Act} {Q : Exit → Act → World → Prop} (h : BB w g t l) (hl : l.length = 512) (hgd : o.guard = none) (s x : Operand)
    (ho : o.op = .call { callee := .builtin .append, args := #[s, x], argTypes := #[22, 22] })
    (hs : a.eval s = .slice (some ⟨g, 0, none⟩) 512 512) (i : Int) (y : Nat) (hi : i = (y : Int)) (hy : y < 256) (hx : a.eval x = .slice (some ⟨w.heap.size, 0, none⟩) 1 1)
    (hK : ∀ v' w', OB w' (w.heap.size + 1) v' (l ++ [y]) → Below w.heap.size w w' → wpList Try.prog ops Q rest (a.put o.dst v') w') :
    wpList Try.prog ops Q (o :: rest) a (w.alloc (.cells #[.int .u8 i] 5)) := by
  obtain ⟨ti, z, h2, h3, h4, h5, h6⟩ := u8_info
  subst hi
  have hadd : ∀ (b j : Nat), (⟨b, 0, none⟩ : Addr).add j = ⟨b, j, none⟩ := fun b j => by unfold Addr.add; split <;> simp_all
  refine wpList_append_grows (P := Try.prog) (w.alloc (.cells #[.int .u8 (y : Int)] 5)) hgd s x 22 ho 5 ti z 1 1 Try.underlying22 h2 h3 h4 h5 h6 (by omega) (some ⟨g, 0, none⟩) 512 512 (l.map bcell) hs (fun e => by cases e) (by simp [hl]) (fun b hb j u hu => ?_) ⟨w.heap.size, 0, none⟩ 1 1 [bcell y] hx rfl (fun j u hu => ?_) (by intro u hu; simp at hu; subst hu; rfl) (by omega) (by simp [maxLen]) (by omega) (fun v' w' r1 r2 => ?_)
  · injection hb with hb
    subst hb
    rw [hadd]
    rw [List.getElem?_map] at hu
    have hj : j < l.length := by
      rcases Nat.lt_or_ge j l.length with h | h
      · exact h
      · rw [List.getElem?_eq_none h] at hu; cases hu
    have h1 := (h.alloc (.cells #[.int .u8 (y : Int)] 5)).cell hj
    rw [List.getElem?_eq_getElem hj] at hu
    injection hu with hu
    subst hu
    exact h1
  · rw [hadd]
    have hj : j = 0 := by
      have := (List.getElem?_eq_some_iff.1 hu).1
      simp at this; omega
    subst hj
    injection hu with hu
    subst hu
    exact (Blk.new w 5 #[.int .u8 (y : Int)]).cell 0
  · have hz := r2.size
    refine hK v' w' ⟨fun x hx => ?_, by simp [hl], ?_⟩ ?_
    · rcases List.mem_append.1 hx with hx | hx
      · exact h.lt x hx
      · simp at hx; omega
    · have e : (l ++ [y]).map bcell = l.map bcell ++ [bcell y] := by rw [List.map_append]; rfl
      rw [e, show (l ++ [y]).length = 512 + 1 by simp [hl]]
      rw [size_alloc_] at r1
      exact r1
    · exact (((Below.refl w.heap.size w).alloc (Nat.le_refl _) _)).trans (below_grownBy r2 (by simp) (fun g hg => by cases hg))

set_option maxRecDepth 100000 in
set_option maxHeartbeats 2000000 in
theorem apartB_any (w : World) (g g2 : Nat) (t : TypeId) (x : Value) (l : List Nat) (B : Nat) (hu : BB w g t l) (hv : BB w g2 t l) (hx : OB w B x l) (hl : l.length = 512) (hne : g ≠ g2) (ht : (5 : TypeId) ≠ t) :
    Calls Try.prog 48 #[.slice (some ⟨g, 0, none⟩) 512 512, .slice (some ⟨g2, 0, none⟩) 512 512, x] w fun e w' => e = .returned (.bool true) ∧ Mod (fun k => k = g) w w' := by
  have HU := Lib.hid hu
  have HV := Lib.hid hv
  have HX := Lib.hid hx
  have HL := Lib.hid hl
  have HNE := Lib.hid hne
  have HXB := Lib.hid (ob_blk hx hu.blk ht)
  obtain ⟨XA, xc, hxe, -, -, -, -⟩ := hx.rbn.open_
  rw [hl] at hxe
  subst hxe
  clear hu hv hx hl hne
  go_enter Try.func48, Try.ntmps48
  go_wp2_with fail
  refine (same_yes _ _ l _ w.heap.size (bb_rb HU.out HL.out HU.out.size) HX.out.rbn).mono ?_
  rintro e w1 ⟨rfl, n1, rfl⟩
  go_wp2_with fail
  refine (same_yes _ _ l _ w.heap.size ((bb_rb HV.out HL.out HV.out.size).drewN n1) (HX.out.rbn.drewN n1)).mono ?_
  rintro e w1 ⟨rfl, n2, rfl⟩
  obtain ⟨w1, hw1⟩ : ∃ w1, w1 = (w.drewN n1).drewN n2 := ⟨_, rfl⟩
  have hu1 : BB w1 g t l := by rw [hw1]; exact ⟨HU.out.blk, HU.out.lt, HU.out.len⟩
  have hv1 : BB w1 g2 t l := by rw [hw1]; exact ⟨HV.out.blk, HV.out.lt, HV.out.len⟩
  have hx1 : OB w1 B (.slice XA 512 xc) l := by rw [hw1]; exact HX.out
  have hm1 : Mod (fun k => k = g) w w1 := by rw [hw1]; exact ((Mod.refl _ w).drewN n1).drewN n2
  try rw [← World.drewN_drewN] 
  try rw [← hw1]
  have HU1 := Lib.hid hu1
  have HV1 := Lib.hid hv1
  have HX1 := Lib.hid hx1
  have HM1 := Lib.hid hm1
  clear hu1 hv1 hx1 hm1 hw1 HU HV HX
  go_wp2_with fail
  refine (spoilB_any w1 g t l 512 512 HU1.out HL.out.symm).mono ?_
  rintro e w2 ⟨rfl, hu2, hm2⟩
  have HU2 := Lib.hid hu2
  have HV2 := Lib.hid (HV1.out.mod hm2 (fun e => HNE.out e.symm))
  have HX2 : Hid (OB w2 B (.slice XA 512 xc) l) := Lib.hid (HX1.out.mod hm2 (fun b hb e => HXB.out b hb e))
  have HM2 := Lib.hid (HM1.out.trans' hm2)
  have htl : (turn l).length = 512 := by simp [turn, HL.out]
  have HTL := Lib.hid htl
  clear hu2 hm2 htl HU1 HV1 HX1 HM1
  go_wp2_with fail
  go_loopw [7, 8] (fun q i wr => ∃ k : Nat, k ≤ 70 ∧ i = .int .i64 k ∧ Hid (Below w2.heap.size w2 wr) ∧ ((k = 0 ∧ q = .slice (some ⟨g, 0, none⟩) 512 512) ∨ (0 < k ∧ ∃ qA qc, q = .slice qA (512 + k) qc ∧ Hid (OB wr w2.heap.size q (turn l ++ List.range k))))) (fun q i wr => 70 - (intOf i).toNat)
  case atStart => exact ⟨0, by omega, rfl, Lib.hid (Below.refl _ _), .inl ⟨rfl, rfl⟩⟩
  case round =>
    obtain ⟨k, hk, rfl, HB, hq⟩ := hrel
    have hzb := HB.out.size
    rcases hq with ⟨hk0, rfl⟩ | ⟨hk0, qA, qc, rfl, HQ⟩
    · have HK0 := Lib.hid hk0
      have hk70 : k < 70 := by omega
      clear hk0
      have HU3 := Lib.hid (HU2.out.below HB.out HU2.out.size)
      go_wp2_with (at_builtin; go_must (refine wpList_appFull HU3.out HTL.out rfl (.tmp 26) (.tmp 29) rfl rfl _ k (by rfl) (by omega) rfl ?_); intro v' w3 ho3 hb3; rw [show turn l ++ [k] = turn l ++ List.range (k + 1) by rw [HK0.out]; rfl] at ho3; obtain ⟨A3, c3, e3, -, -, -, -⟩ := ho3.rbn.open_; rw [show (turn l ++ List.range (k + 1)).length = 512 + (k + 1) by simp [HTL.out]] at e3; subst e3; have HO3 := Lib.hid ho3; have HB3 := Lib.hid hb3; clear ho3 hb3)
      go_roundw
      case rel => exact ⟨k + 1, by omega, by go_num, Lib.hid (HB.out.trans (HB3.out.mono hzb)), .inr ⟨by omega, A3, c3, rfl, Lib.hid (HO3.out.base (by omega))⟩⟩
      case measure => simp [intOf]; omega
    · by_cases hlt : k < 70
      · have HQL : Hid ((turn l ++ List.range k).length + 1 ≤ 140737488355328) := Lib.hid (by rw [List.length_append, HTL.out, List.length_range]; omega)
        go_wp2_with (at_builtin; go_must (refine wpList_app1 (w0 := w2) rfl (.tmp 26) (.tmp 29) rfl w2.heap.size _ _ rfl HQ.out HB.out (Nat.le_refl _) _ k (by rfl) (by omega) rfl HQL.out ?_); intro v' w3 ho3 hb3 _; rw [List.append_assoc, show List.range k ++ [k] = List.range (k + 1) from List.range_succ.symm] at ho3; obtain ⟨A3, c3, e3, -, -, -, -⟩ := ho3.rbn.open_; rw [show (turn l ++ List.range (k + 1)).length = 512 + (k + 1) by simp [HTL.out]] at e3; subst e3; have HO3 := Lib.hid ho3; have HB3 := Lib.hid hb3; clear ho3 hb3)
        go_roundw
        case rel => exact ⟨k + 1, by omega, by go_num, HB3, .inr ⟨by omega, A3, c3, rfl, HO3⟩⟩
        case measure => simp [intOf]; omega
      · obtain rfl : k = 70 := by omega
        have HU3 : Hid (RB wr wr.heap.size (.slice (some ⟨g, 0, none⟩) 512 512) (turn l)) := Lib.hid (bb_rb (HU2.out.below HB.out HU2.out.size) HTL.out (HU2.out.below HB.out HU2.out.size).size)
        have HV3 : Hid (RB wr wr.heap.size (.slice (some ⟨g2, 0, none⟩) 512 512) l) := Lib.hid (bb_rb (HV2.out.below HB.out HV2.out.size) HL.out (HV2.out.below HB.out HV2.out.size).size)
        have HX3 : Hid (RB wr wr.heap.size (.slice XA 512 xc) l) := Lib.hid (HX2.out.below HB.out).rbn
        go_wp2_with fail
        refine (turned_yes _ _ l _ wr.heap.size HU3.out HX3.out).mono ?_
        rintro e w3 ⟨rfl, n3, rfl⟩
        go_wp2_with fail
        refine (same_yes _ _ l _ wr.heap.size (HV3.out.drewN n3) (HX3.out.drewN n3)).mono ?_
        rintro e w3 ⟨rfl, n4, rfl⟩
        go_wp2_with fail
        go_ret
        exact ⟨rfl, (HM2.out.trans' (Mod.of_below HB.out _)).drewN _⟩
end Go.Proofs.Ytdghanhpeekbhaa
