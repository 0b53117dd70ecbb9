/-
  keys.Parse, keys.Split and the reference's, whole.
-/
import Derived.Test.YtbmjiheclagfiaaK5
import Derived.Test.YtbmjiheclagfiaaK5b
import Derived.Test.YtbmjiheclagfiaaK5c
import Derived.Test.YtbmjiheclagfiaaK5d
import Derived.Test.YtbmjiheclagfiaaK6
import Derived.Test.YtbmjiheclagfiaaK6b
import Derived.Test.YtbmjiheclagfiaaK6c
import Derived.Test.YtbmjiheclagfiaaS3
namespace Go.Proofs.Ytbmjiheclagfiaa
open Go.RowKit
set_option linter.unusedVariables false

theorem strOf_fold : ∀ (l : List Nat) (r : ByteArray), (l.map (fun x : Nat => (x : Int))).foldl (fun r n => r.push (UInt8.ofNat n.toNat)) r = ⟨r.data ++ (l.map UInt8.ofNat).toArray⟩
  | [], r => by simp
  | x :: l, r => by
    simp only [List.map_cons, List.foldl_cons]
    rw [strOf_fold l]
    simp [ByteArray.push]
theorem strOf_eq (l : List Nat) : strOf l = ⟨(l.map UInt8.ofNat).toArray⟩ := by
  unfold strOf
  rw [strOf_fold]
  have he0 : ByteArray.empty.data = #[] := rfl
  rw [he0]
  simp
theorem strOf_size (l : List Nat) : (strOf l).size = l.length := by rw [strOf_eq]; simp [ByteArray.size]
theorem strL_strOf (l : List Nat) (hl : ∀ x ∈ l, x < 256) : strL (strOf l) = l := by
  rw [strOf_eq]
  simp only [strL, List.map_map]
  refine (List.map_congr_left (g := id) fun x hx => ?_).trans (List.map_id l)
  have := hl x hx
  simp [UInt8.toNat_ofNat']
  omega
theorem strOf_strL (s : ByteArray) : strOf (strL s) = s := by
  rw [strOf_eq]
  simp only [strL, List.map_map]
  have : (UInt8.ofNat ∘ UInt8.toNat) = id := by funext c; simp
  rw [this, List.map_id]

theorem RB.from {w : World} {B b off c k : Nat} {l : List Nat} (h : RB w B (.slice (some ⟨b, off, none⟩) l.length c) l) (hb : b < B) (hk : k ≤ l.length) : RB w B (.slice (some ⟨b, off + k, none⟩) (l.length - k) (c - k)) (l.drop k) := by
  obtain ⟨h1, h2, A, c', hv, h3, h4, h5⟩ := h
  injection hv with e1 e2 e3
  subst e1 e3
  refine ⟨fun x hx => h1 x (List.mem_of_mem_drop hx), by rw [List.length_drop]; omega, some ⟨b, off + k, none⟩, c - k, by rw [List.length_drop], by rw [List.length_drop]; omega, by omega, .inr ⟨b, off + k, rfl, hb, ?_⟩⟩
  intro j x hj
  rw [List.getElem?_drop] at hj
  rcases h5 with h5 | ⟨b', off', he, _, hc⟩
  · rw [h5] at hj; simp at hj
  · injection he with he
    injection he with e1 e2
    subst e1 e2
    have := hc (k + j) x hj
    rw [← Nat.add_assoc] at this
    exact this

theorem getD_at (l : List Nat) (k d : Nat) (h : k < l.length) : l.getD k d = l[k] := by rw [List.getD_eq_getElem?_getD, List.getElem?_eq_getElem h]; rfl

theorem parse_any (v : Value) (l : List Nat) (w : World) (hv : RB w w.heap.size v l) : Calls Try.prog 20 #[v] w (ParseQ w (parseL l)) := by
  have HV := Lib.hid hv
  have hv0 := hv
  obtain ⟨A, c, rfl, ha1, ha2, ha3, HA⟩ := hv.open_
  have ha1' : (l.length : Int) ≤ c := by omega
  by_cases h5 : l.length = 5
  · obtain ⟨b, off, rfl, hb, hc, hx2⟩ := HA.out 0 (by omega)
    have e0 := getD_at l 0 0 (by omega)
    have h5i : ((l.length : Int) == 5) = true := by simp; omega
    have hc' : w.cell? ⟨b, off, none⟩ = some (.int .u8 (l[0]'(by omega) : Nat)) := hc
    by_cases hx1 : l[0]'(by omega) = 1
    · rw [hx1] at hc'
      cases hid : idB (val4 l 1) with
      | true => exact parse_elem_ok1 b off c l w HV hb h5 hc' h5i (by omega) (by omega) ha1' _ rfl hid (by show _ = _; unfold parseL; rw [if_pos ⟨h5, .inl (by rw [e0]; exact hx1)⟩, if_pos hid, e0, hx1]; rfl)
      | false => exact parse_elem_bad1 b off c l w HV hb h5 hc' h5i (by omega) (by omega) ha1' _ rfl hid (by show _ = _; unfold parseL; rw [if_pos ⟨h5, .inl (by rw [e0]; exact hx1)⟩, hid]; rfl)
    · by_cases hx2 : l[0]'(by omega) = 2
      · rw [hx2] at hc'
        cases hid : idB (val4 l 1) with
        | true => exact parse_elem_ok2 b off c l w HV hb h5 hc' h5i (by omega) (by omega) ha1' _ rfl hid (by show _ = _; unfold parseL; rw [if_pos ⟨h5, .inr (by rw [e0]; exact hx2)⟩, if_pos hid, e0, hx2]; rfl)
        | false => exact parse_elem_bad2 b off c l w HV hb h5 hc' h5i (by omega) (by omega) ha1' _ rfl hid (by show _ = _; unfold parseL; rw [if_pos ⟨h5, .inr (by rw [e0]; exact hx2)⟩, hid]; rfl)
      · refine parse_not_five _ c l w h5i (by simp; omega) (by simp; omega) b off rfl hb _ hc' (by omega) (by omega) (by simp; omega) (by simp; omega) ?_
        show _ = _
        unfold parseL
        rw [if_neg (by rw [e0]; intro h; rcases h.2 with h | h; exact hx1 h; exact hx2 h), if_neg (by omega)]
  · have h5i : ((l.length : Int) == 5) = false := by simp; omega
    by_cases h7 : 6 < l.length
    · obtain ⟨b, off, rfl, hb, hc, hx2⟩ := HA.out 0 (by omega)
      obtain ⟨b', off', he, _, hc1, hy2⟩ := HA.out 1 (by omega)
      injection he with he
      injection he with e1 e2
      subst e1 e2
      have e0 := getD_at l 0 0 (by omega)
      have e1 := getD_at l 1 0 (by omega)
      have hc' : w.cell? ⟨b, off, none⟩ = some (.int .u8 (l[0]'(by omega) : Nat)) := hc
      have d7 : decide ((6 : Int) < l.length) = true := decide_eq_true (by omega)
      have d7n : decide (6 < l.length) = true := decide_eq_true h7
      by_cases hx3 : l[0]'(by omega) = 3
      · by_cases hy1 : l[1]'(by omega) ≤ 1
        · have hs : (strOf (l.drop 6)).size ≤ 9223372036854775807 := by rw [strOf_size, List.length_drop]; omega
          have hcv : ∀ o1 o2, (convert 22 9 (.slice (some ⟨b, off + 6, none⟩) (l.length - 6) (c - 6))).run Try.prog (((w.alloc o1).alloc o2).drew) = .ok (.string (strOf (l.drop 6))) (((w.alloc o1).alloc o2).drew) :=
            fun o1 o2 => run_b2s _ w.heap.size _ _ (((((hv0.from hb (by omega)).alloc (Nat.le_refl _) o1)).alloc (by simp) o2).drew)
          rw [hx3] at hc'
          have hsp : parseL l = if idB (val4 l 2) && nameB (strOf (l.drop 6)) then some (decide (l[1]'(by omega) = 1), val4 l 2, strOf (l.drop 6)) else none := by
            unfold parseL
            rw [if_neg (by intro h; exact h5 h.1), if_pos ⟨h7, by rw [e0]; exact hx3, by rw [e1]; exact hy1⟩, e1]
          rcases Nat.le_one_iff_eq_zero_or_eq_one.1 hy1 with hy | hy
          · rw [hy] at hc1 hsp
            cases hnm : nameB (strOf (l.drop 6)) with
            | false => exact parse_prop_badname0 b off c l w HV hb h7 hc' hc1 h5i d7 d7n (by omega) (by omega) (by omega) (by omega) ha1' (by omega) _ rfl _ hs hcv hnm (by show _ = _; rw [hsp, hnm, Bool.and_false]; rfl)
            | true =>
              cases hid : idB (val4 l 2) with
              | false => exact parse_prop_badid0 b off c l w HV hb h7 hc' hc1 h5i d7 d7n (by omega) (by omega) (by omega) (by omega) ha1' (by omega) _ rfl _ hs hcv hnm hid (by show _ = _; rw [hsp, hnm, hid]; rfl)
              | true => exact parse_prop_ok0 b off c l w HV hb h7 hc' hc1 h5i d7 d7n (by omega) (by omega) (by omega) (by omega) ha1' (by omega) _ rfl _ hs hcv hnm hid (by show _ = _; rw [hsp, hnm, hid]; rfl)
          · rw [hy] at hc1 hsp
            cases hnm : nameB (strOf (l.drop 6)) with
            | false => exact parse_prop_badname1 b off c l w HV hb h7 hc' hc1 h5i d7 d7n (by omega) (by omega) (by omega) (by omega) ha1' (by omega) _ rfl _ hs hcv hnm (by show _ = _; rw [hsp, hnm, Bool.and_false]; rfl)
            | true =>
              cases hid : idB (val4 l 2) with
              | false => exact parse_prop_badid1 b off c l w HV hb h7 hc' hc1 h5i d7 d7n (by omega) (by omega) (by omega) (by omega) ha1' (by omega) _ rfl _ hs hcv hnm hid (by show _ = _; rw [hsp, hnm, hid]; rfl)
              | true => exact parse_prop_ok1 b off c l w HV hb h7 hc' hc1 h5i d7 d7n (by omega) (by omega) (by omega) (by omega) ha1' (by omega) _ rfl _ hs hcv hnm hid (by show _ = _; rw [hsp, hnm, hid]; rfl)
        · refine parse_not_class _ c l w h5i d7 d7n b off rfl hb _ hc' (by omega) (by omega) (by simp; omega) _ hc1 (by omega) (by simp; omega) (by simp; omega) ?_
          show _ = _
          unfold parseL
          rw [if_neg (by intro h; exact h5 h.1), if_neg (by rw [e1]; intro h; exact hy1 h.2.2)]
      · refine parse_not_head _ c l w h5i d7 d7n b off rfl hb _ hc' (by omega) (by omega) (by simp; omega) ?_
        show _ = _
        unfold parseL
        rw [if_neg (by intro h; exact h5 h.1), if_neg (by rw [e0]; intro h; exact hx3 h.2.1)]
    · refine parse_not_short A c l w h5i (by simp; omega) (by simp; omega) ?_
      show _ = _
      unfold parseL
      rw [if_neg (by intro h; exact h5 h.1), if_neg (by intro h; exact h7 h.1)]

theorem rparse_any (v : Value) (l : List Nat) (w : World) (hv : RB w w.heap.size v l) : Calls Try.prog 21 #[v] w (ParseQ w (parseL l)) := by
  have HV := Lib.hid hv
  have hv0 := hv
  obtain ⟨A, c, rfl, ha1, ha2, ha3, HA⟩ := hv.open_
  have ha1' : (l.length : Int) ≤ c := by omega
  by_cases h5 : l.length = 5
  · obtain ⟨b, off, rfl, hb, hc, hx2⟩ := HA.out 0 (by omega)
    have e0 := getD_at l 0 0 (by omega)
    have h5i : ((l.length : Int) == 5) = true := by simp; omega
    have hc' : w.cell? ⟨b, off, none⟩ = some (.int .u8 (l[0]'(by omega) : Nat)) := hc
    by_cases hx1 : l[0]'(by omega) = 1
    · rw [hx1] at hc'
      cases hid : idB (val4 l 1) with
      | true => obtain ⟨i1, i2⟩ := inB_iff.1 hid; exact rparse_elem_ok1 b off c l w HV hb h5 hc' h5i (by omega) (by omega) ha1' _ rfl (decide_eq_true i1) (decide_eq_true i2) (decide_eq_true (by omega)) (decide_eq_true (by omega)) (by show _ = _; unfold parseL; rw [if_pos ⟨h5, .inl (by rw [e0]; exact hx1)⟩, if_pos hid, e0, hx1]; rfl)
      | false => 
        by_cases h1 : (1 : Int) ≤ (val4 l 1 : Int)
        · have h2 : ¬ ((val4 l 1 : Int) ≤ 2147483647) := fun h => by rw [show idB (val4 l 1) = true from inB_yes h1 h] at hid; cases hid
          exact rparse_elem_hi1 b off c l w HV hb h5 hc' h5i (by omega) (by omega) ha1' _ rfl (decide_eq_true h1) (decide_eq_false h2) (decide_eq_true (by omega)) (decide_eq_false (by omega)) (by show _ = _; unfold parseL; rw [if_pos ⟨h5, .inl (by rw [e0]; exact hx1)⟩, hid]; rfl)
        · exact rparse_elem_lo1 b off c l w HV hb h5 hc' h5i (by omega) (by omega) ha1' _ rfl (decide_eq_false h1) (decide_eq_false (by omega)) (by show _ = _; unfold parseL; rw [if_pos ⟨h5, .inl (by rw [e0]; exact hx1)⟩, hid]; rfl)
    · by_cases hx2 : l[0]'(by omega) = 2
      · rw [hx2] at hc'
        cases hid : idB (val4 l 1) with
        | true => obtain ⟨i1, i2⟩ := inB_iff.1 hid; exact rparse_elem_ok2 b off c l w HV hb h5 hc' h5i (by omega) (by omega) ha1' _ rfl (decide_eq_true i1) (decide_eq_true i2) (decide_eq_true (by omega)) (decide_eq_true (by omega)) (by show _ = _; unfold parseL; rw [if_pos ⟨h5, .inr (by rw [e0]; exact hx2)⟩, if_pos hid, e0, hx2]; rfl)
        | false => 
          by_cases h1 : (1 : Int) ≤ (val4 l 1 : Int)
          · have h2 : ¬ ((val4 l 1 : Int) ≤ 2147483647) := fun h => by rw [show idB (val4 l 1) = true from inB_yes h1 h] at hid; cases hid
            exact rparse_elem_hi2 b off c l w HV hb h5 hc' h5i (by omega) (by omega) ha1' _ rfl (decide_eq_true h1) (decide_eq_false h2) (decide_eq_true (by omega)) (decide_eq_false (by omega)) (by show _ = _; unfold parseL; rw [if_pos ⟨h5, .inr (by rw [e0]; exact hx2)⟩, hid]; rfl)
          · exact rparse_elem_lo2 b off c l w HV hb h5 hc' h5i (by omega) (by omega) ha1' _ rfl (decide_eq_false h1) (decide_eq_false (by omega)) (by show _ = _; unfold parseL; rw [if_pos ⟨h5, .inr (by rw [e0]; exact hx2)⟩, hid]; rfl)
      · refine rparse_not_five _ c l w h5i (by simp; omega) (by simp; omega) b off rfl hb _ hc' (by omega) (by omega) (by simp; omega) (by simp; omega) ?_
        show _ = _
        unfold parseL
        rw [if_neg (by rw [e0]; intro h; rcases h.2 with h | h; exact hx1 h; exact hx2 h), if_neg (by omega)]
  · have h5i : ((l.length : Int) == 5) = false := by simp; omega
    by_cases h7 : 6 < l.length
    · obtain ⟨b, off, rfl, hb, hc, hx2⟩ := HA.out 0 (by omega)
      obtain ⟨b', off', he, _, hc1, hy2⟩ := HA.out 1 (by omega)
      injection he with he
      injection he with e1 e2
      subst e1 e2
      have e0 := getD_at l 0 0 (by omega)
      have e1 := getD_at l 1 0 (by omega)
      have hc' : w.cell? ⟨b, off, none⟩ = some (.int .u8 (l[0]'(by omega) : Nat)) := hc
      have d7 : decide ((6 : Int) < l.length) = true := decide_eq_true (by omega)
      have d7n : decide (6 < l.length) = true := decide_eq_true h7
      by_cases hx3 : l[0]'(by omega) = 3
      · by_cases hy1 : l[1]'(by omega) ≤ 1
        · have hs : (strOf (l.drop 6)).size ≤ 9223372036854775807 := by rw [strOf_size, List.length_drop]; omega
          have hcv : ∀ o1, (convert 22 9 (.slice (some ⟨b, off + 6, none⟩) (l.length - 6) (c - 6))).run Try.prog (w.alloc o1) = .ok (.string (strOf (l.drop 6))) (w.alloc o1) :=
            fun o1 => run_b2s _ w.heap.size _ _ ((hv0.from hb (by omega)).alloc (Nat.le_refl _) o1)
          rw [hx3] at hc'
          have hsp : parseL l = if idB (val4 l 2) && nameB (strOf (l.drop 6)) then some (decide (l[1]'(by omega) = 1), val4 l 2, strOf (l.drop 6)) else none := by
            unfold parseL
            rw [if_neg (by intro h; exact h5 h.1), if_pos ⟨h7, by rw [e0]; exact hx3, by rw [e1]; exact hy1⟩, e1]
          rcases Nat.le_one_iff_eq_zero_or_eq_one.1 hy1 with hy | hy
          · rw [hy] at hc1 hsp
            cases hid : idB (val4 l 2) with
            | false =>
              have hn : parseL l = none := by rw [hsp, hid]; rfl
              by_cases h1 : (1 : Int) ≤ (val4 l 2 : Int)
              · have h2 : ¬ ((val4 l 2 : Int) ≤ 2147483647) := fun h => by rw [show idB (val4 l 2) = true from inB_yes h1 h] at hid; cases hid
                exact rparse_prop_hi0 b off c l w HV hb h7 hc' hc1 h5i d7 d7n (by omega) (by omega) (by omega) (by omega) ha1' (by omega) _ rfl _ hs hcv (decide_eq_true h1) (decide_eq_false h2) (decide_eq_true (by omega)) (decide_eq_false (by omega)) hn
              · exact rparse_prop_lo0 b off c l w HV hb h7 hc' hc1 h5i d7 d7n (by omega) (by omega) (by omega) (by omega) ha1' (by omega) _ rfl _ hs hcv (decide_eq_false h1) (decide_eq_false (by omega)) hn
            | true =>
              obtain ⟨i1, i2⟩ := inB_iff.1 hid
              cases hnm : nameB (strOf (l.drop 6)) with
              | false => exact rparse_prop_badname0 b off c l w HV hb h7 hc' hc1 h5i d7 d7n (by omega) (by omega) (by omega) (by omega) ha1' (by omega) _ rfl _ hs hcv (decide_eq_true i1) (decide_eq_true i2) (decide_eq_true (by omega)) (decide_eq_true (by omega)) hnm (by show _ = _; rw [hsp, hnm, hid]; rfl)
              | true => exact rparse_prop_ok0 b off c l w HV hb h7 hc' hc1 h5i d7 d7n (by omega) (by omega) (by omega) (by omega) ha1' (by omega) _ rfl _ hs hcv (decide_eq_true i1) (decide_eq_true i2) (decide_eq_true (by omega)) (decide_eq_true (by omega)) hnm (by show _ = _; rw [hsp, hnm, hid]; rfl)
          · rw [hy] at hc1 hsp
            cases hid : idB (val4 l 2) with
            | false =>
              have hn : parseL l = none := by rw [hsp, hid]; rfl
              by_cases h1 : (1 : Int) ≤ (val4 l 2 : Int)
              · have h2 : ¬ ((val4 l 2 : Int) ≤ 2147483647) := fun h => by rw [show idB (val4 l 2) = true from inB_yes h1 h] at hid; cases hid
                exact rparse_prop_hi1 b off c l w HV hb h7 hc' hc1 h5i d7 d7n (by omega) (by omega) (by omega) (by omega) ha1' (by omega) _ rfl _ hs hcv (decide_eq_true h1) (decide_eq_false h2) (decide_eq_true (by omega)) (decide_eq_false (by omega)) hn
              · exact rparse_prop_lo1 b off c l w HV hb h7 hc' hc1 h5i d7 d7n (by omega) (by omega) (by omega) (by omega) ha1' (by omega) _ rfl _ hs hcv (decide_eq_false h1) (decide_eq_false (by omega)) hn
            | true =>
              obtain ⟨i1, i2⟩ := inB_iff.1 hid
              cases hnm : nameB (strOf (l.drop 6)) with
              | false => exact rparse_prop_badname1 b off c l w HV hb h7 hc' hc1 h5i d7 d7n (by omega) (by omega) (by omega) (by omega) ha1' (by omega) _ rfl _ hs hcv (decide_eq_true i1) (decide_eq_true i2) (decide_eq_true (by omega)) (decide_eq_true (by omega)) hnm (by show _ = _; rw [hsp, hnm, hid]; rfl)
              | true => exact rparse_prop_ok1 b off c l w HV hb h7 hc' hc1 h5i d7 d7n (by omega) (by omega) (by omega) (by omega) ha1' (by omega) _ rfl _ hs hcv (decide_eq_true i1) (decide_eq_true i2) (decide_eq_true (by omega)) (decide_eq_true (by omega)) hnm (by show _ = _; rw [hsp, hnm, hid]; rfl)
        · refine rparse_not_class _ c l w h5i d7 d7n b off rfl hb _ hc' (by omega) (by omega) (by simp; omega) _ hc1 (by omega) (by simp; omega) (by simp; omega) ?_
          show _ = _
          unfold parseL
          rw [if_neg (by intro h; exact h5 h.1), if_neg (by rw [e1]; intro h; exact hy1 h.2.2)]
      · refine rparse_not_head _ c l w h5i d7 d7n b off rfl hb _ hc' (by omega) (by omega) (by simp; omega) ?_
        show _ = _
        unfold parseL
        rw [if_neg (by intro h; exact h5 h.1), if_neg (by rw [e0]; intro h; exact hx3 h.2.1)]
    · refine rparse_not_short A c l w h5i (by simp; omega) (by simp; omega) ?_
      show _ = _
      unfold parseL
      rw [if_neg (by intro h; exact h5 h.1), if_neg (by intro h; exact h7 h.1)]

theorem split_any (v : Value) (l : List Nat) (w : World) (hv : RB w w.heap.size v l) (hl : l.length ≤ 140737488355328) : Calls Try.prog 25 #[v] w (Bytes3 w.heap.size w (splitR l)) := by
  have HV := Lib.hid hv
  obtain ⟨A, c, rfl, ha1, ha2, ha3, HA⟩ := hv.open_
  by_cases h : l.length < 10
  · exact split_short A c l w h (decide_eq_false (by omega))
  · exact split_long A c (l.length - 10) l w HV (by show _ = _; omega) (by omega) (by omega) (by omega)
theorem rsplit_any (v : Value) (l : List Nat) (w : World) (hv : RB w w.heap.size v l) (hl : l.length ≤ 140737488355328) : Calls Try.prog 26 #[v] w (Bytes3 w.heap.size w (splitR l)) := by
  have HV := Lib.hid hv
  obtain ⟨A, c, rfl, ha1, ha2, ha3, HA⟩ := hv.open_
  by_cases h : l.length < 10
  · exact rsplit_short A c l w h (decide_eq_false (by omega)) (decide_eq_true (by omega)) (decide_eq_true h)
  · exact rsplit_long A c (l.length - 10) l w HV (by show _ = _; omega) (by omega) (by omega) (by omega)
end Go.Proofs.Ytbmjiheclagfiaa
