/-
  What a page's Parse finds in any bytes, in plain words: the items as far as their slots are right. No walk.
-/
import Derived.ScopeJumps
import Derived.Test.YtbagmmncjmbboaaGreatZJ7
namespace Go.Proofs.YtbagmmncjmbboaaGreat
open Go.RowKit Go.Maps
set_option linter.unusedVariables false

/-- The two bytes of the k-th slot. -/
def slotV (L : List Nat) (k : Nat) : Nat := leV ((L.drop (18 + 2 * k)).take 2)

/-- Where the items begin that its are. -/
def endOf (its : List (List Nat)) : Nat := 512 - (its.map List.length).sum

/-- The slots of its are right, and say its. -/
structure Pre0 (L : List Nat) (n : Nat) (its : List (List Nat)) : Prop where
  len : its.length ≤ n
  fit : 18 + 2 * n + (its.map List.length).sum ≤ 512
  small : ∀ l ∈ its, l.length ≤ 200
  slot : ∀ k (hk : k < its.length), slotV L k = 512 - sumTo its (k + 1)
  item : ∀ k (hk : k < its.length), (L.drop (512 - sumTo its (k + 1))).take its[k].length = its[k]

/-- .. and the next slot is wrong, or there is none. -/
structure Pre (L : List Nat) (n : Nat) (its : List (List Nat)) : Prop extends Pre0 L n its where
  stop : its.length = n ∨ (endOf its < slotV L its.length ∨ slotV L its.length < 18 + 2 * n ∨ 200 < endOf its - slotV L its.length)

theorem sumTo_app {a : List (List Nat)} {x : List Nat} {k : Nat} (hk : k ≤ a.length) : sumTo (a ++ [x]) k = sumTo a k := by
  unfold sumTo
  rw [List.take_append_of_le_length hk]

theorem Pre0.grow {L : List Nat} {n : Nat} {its : List (List Nat)} (hL : L.length = 512) (h : Pre0 L n its) (hlt : its.length < n) (h1 : slotV L its.length ≤ endOf its) (h2 : 18 + 2 * n ≤ slotV L its.length) (h3 : endOf its - slotV L its.length ≤ 200) :
    Pre0 L n (its ++ [(L.drop (slotV L its.length)).take (endOf its - slotV L its.length)]) := by
  have hfit := h.fit
  obtain ⟨e', he'⟩ : ∃ e', e' = slotV L its.length := ⟨_, rfl⟩
  rw [← he'] at h1 h2 h3 ⊢
  obtain ⟨x, hx⟩ : ∃ x, x = (L.drop e').take (endOf its - e') := ⟨_, rfl⟩
  rw [← hx]
  unfold endOf at h1 h3 hx
  have hxl : x.length = 512 - (its.map List.length).sum - e' := by rw [hx, List.length_take, List.length_drop]; omega
  have hsum : ((its ++ [x]).map List.length).sum = (its.map List.length).sum + x.length := by simp
  have hlast : sumTo (its ++ [x]) (its.length + 1) = (its.map List.length).sum + x.length := by
    rw [← hsum, ← sumTo_all, List.length_append, List.length_singleton]
  refine ⟨by rw [List.length_append, List.length_singleton]; omega, by rw [hsum, hxl]; omega, fun l hl => ?_, fun k hk => ?_, fun k hk => ?_⟩
  · rcases List.mem_append.1 hl with hl | hl
    · exact h.small l hl
    · rw [List.mem_singleton.1 hl, hxl]; omega
  · rw [List.length_append, List.length_singleton] at hk
    by_cases hki : k < its.length
    · rw [sumTo_app (by omega)]; exact h.slot k hki
    · obtain rfl : k = its.length := by omega
      rw [hlast, hxl, ← he']; omega
  · rw [List.length_append, List.length_singleton] at hk
    by_cases hki : k < its.length
    · rw [sumTo_app (by omega), List.getElem_append_left hki]; exact h.item k hki
    · obtain rfl : k = its.length := by omega
      rw [hlast, List.getElem_append_right (Nat.le_refl _)]
      simp only [Nat.sub_self, List.getElem_cons_zero]
      rw [show 512 - ((its.map List.length).sum + x.length) = e' by omega, hxl, ← hx]

theorem pre_exists {L : List Nat} {n : Nat} (hL : L.length = 512) (hn : n ≤ 100) : ∃ its, Pre L n its := by
  have go : ∀ (d : Nat) (its : List (List Nat)), Pre0 L n its → n - its.length = d → ∃ its', Pre L n its' := by
    intro d
    induction d with
    | zero => exact fun its h hd => ⟨its, ⟨h, .inl (by have := h.len; omega)⟩⟩
    | succ d ih =>
      intro its h hd
      by_cases hs : endOf its < slotV L its.length ∨ slotV L its.length < 18 + 2 * n ∨ 200 < endOf its - slotV L its.length
      · exact ⟨its, ⟨h, .inr hs⟩⟩
      · exact ih _ (h.grow hL (by omega) (by omega) (by omega) (by omega)) (by rw [List.length_append, List.length_singleton]; omega)
  exact go _ [] ⟨Nat.zero_le _, by simp; omega, by simp, fun k hk => by simp at hk, fun k hk => by simp at hk⟩ rfl

/-! ### All slots right, and the gap empty: the bytes are those of the page -/

theorem digits_leV : ∀ l : List Nat, (∀ x ∈ l, x < 256) → digits (leV l) l.length = l
  | [], _ => rfl
  | x :: r, h => by
    have hx := h x (List.mem_cons_self ..)
    have ih := digits_leV r (fun y hy => h y (List.mem_cons_of_mem _ hy))
    unfold digits at ih ⊢
    rw [List.length_cons, List.range_succ_eq_map, List.map_cons, List.map_map]
    congr 1
    · simp only [leV, Nat.pow_zero, Nat.div_one]; omega
    · refine Eq.trans (List.map_congr_left fun i _ => ?_) ih
      simp only [leV, Function.comp]
      rw [Nat.pow_succ, Nat.mul_comm (256 ^ i) 256, ← Nat.div_div_eq_div_mul, show (x + 256 * leV r) / 256 = leV r by omega]

theorem slots_are {L : List Nat} {n : Nat} (hL : L.length = 512) (hb : ∀ x ∈ L, x < 256) {its : List (List Nat)} (h : Pre0 L n its) : ∀ k, k ≤ its.length → (L.drop 18).take (2 * k) = slotsL (its.take k) 512 := by
  intro k
  induction k with
  | zero => intro _; simp [slotsL]
  | succ k ih =>
    intro hk
    have hf := h.fit
    have hl := h.len
    rw [List.take_succ_eq_append_getElem (by omega), slotsL_snoc, ← ih (by omega)]
    have e : 512 - ((its.take k).map List.length).sum - its[k].length = slotV L k := by
      rw [h.slot k (by omega), sumTo_succ (by omega)]
      unfold sumTo
      omega
    rw [e]
    have hd : (L.drop (18 + 2 * k)).take 2 = digits (slotV L k) 2 := by
      have h2 : ((L.drop (18 + 2 * k)).take 2).length = 2 := by rw [List.length_take, List.length_drop]; omega
      have := digits_leV ((L.drop (18 + 2 * k)).take 2) (fun x hx => hb x (List.mem_of_mem_drop (List.mem_of_mem_take hx)))
      rw [h2] at this
      exact this.symm
    rw [← hd, show 2 * (k + 1) = 2 * k + 2 by omega, List.take_add, List.drop_drop]

theorem tail_is {L : List Nat} {n : Nat} (hL : L.length = 512) {its : List (List Nat)} (h : Pre0 L n its) : ∀ k, k ≤ its.length → L.drop (512 - sumTo its k) = tailL (its.take k) := by
  intro k
  induction k with
  | zero => intro _; rw [show sumTo its 0 = 0 by rfl, List.drop_eq_nil_of_le (by omega)]; rfl
  | succ k ih =>
    intro hk
    have hf := h.fit
    have hm := sumTo_mono (L := its) (k := k + 1)
    rw [List.take_succ_eq_append_getElem (by omega), tailL_snoc, ← ih (by omega), ← h.item k (by omega)]
    have hs := sumTo_succ (L := its) (k := k) (by omega)
    have e : 512 - sumTo its k = (512 - sumTo its (k + 1)) + its[k].length := by omega
    rw [e, ← List.drop_drop, h.item k (by omega)]
    have h4 := List.take_append_drop its[k].length (L.drop (512 - sumTo its (k + 1)))
    rw [h.item k (by omega)] at h4
    exact h4.symm

/-- The page that the bytes say, its items being these. -/
def pgOf (L : List Nat) (its : List (List Nat)) : PG := ⟨(leV ((L.drop 4).take 8) : Nat), L.getD 12 0, leV ((L.drop 13).take 4), its⟩

theorem pgOf_ok {L : List Nat} {n : Nat} {its : List (List Nat)} (hL : L.length = 512) (hb : ∀ x ∈ L, x < 256) (hn : n ≤ 100) (hl : leV ((L.drop 4).take 8) ≤ 9223372036854775807) (h : Pre0 L n its) : (pgOf L its).Ok := by
  refine ⟨by have := h.len; show its.length ≤ 100; omega, h.small, ⟨by show (0 : Int) ≤ ((_ : Nat) : Int); omega, by show ((_ : Nat) : Int) ≤ _; omega⟩, ?_, ?_⟩
  · show L.getD 12 0 < 256
    rw [List.getD, List.getElem?_eq_getElem (by omega)]
    exact hb _ (List.getElem_mem _)
  · have h1 := leV_lt ((L.drop 13).take 4) (fun x hx => hb x (List.mem_of_mem_drop (List.mem_of_mem_take hx)))
    have h2 : ((L.drop 13).take 4).length = 4 := by rw [List.length_take, List.length_drop]; omega
    rw [h2] at h1
    exact h1

theorem pre_full {L : List Nat} {n : Nat} {its : List (List Nat)} (hL : L.length = 512) (hb : ∀ x ∈ L, x < 256) (hsum : leV (L.take 4) = crcSum (L.drop 4)) (hn : L[17]? = some n) (h : Pre0 L n its) (hlen : its.length = n) (hgap : ∀ j, 18 + 2 * n ≤ j → j < endOf its → L[j]? = some 0) :
    pageL (pgOf L its) = L ∧ (pgOf L its).Fit := by
  have hfit := h.fit
  have hm4 : (L.take 4) = digits (crcSum (L.drop 4)) 4 := by
    have h4 : (L.take 4).length = 4 := by rw [List.length_take]; omega
    have := digits_leV (L.take 4) (fun x hx => hb x (List.mem_of_mem_take hx))
    rw [h4, hsum] at this
    exact this.symm
  have hbody : (pgOf L its).body = L.drop 4 := by
    have e8 : digits (leV ((L.drop 4).take 8)) 8 = (L.drop 4).take 8 := by
      have h8 : ((L.drop 4).take 8).length = 8 := by rw [List.length_take, List.length_drop]; omega
      have := digits_leV ((L.drop 4).take 8) (fun x hx => hb x (List.mem_of_mem_drop (List.mem_of_mem_take hx)))
      rwa [h8] at this
    have e4 : digits (leV ((L.drop 13).take 4)) 4 = (L.drop 13).take 4 := by
      have h4 : ((L.drop 13).take 4).length = 4 := by rw [List.length_take, List.length_drop]; omega
      have := digits_leV ((L.drop 13).take 4) (fun x hx => hb x (List.mem_of_mem_drop (List.mem_of_mem_take hx)))
      rwa [h4] at this
    have e12 : [L.getD 12 0] = (L.drop 12).take 1 := by
      rw [List.drop_eq_getElem_cons (by omega), List.take_succ_cons, List.take_zero, List.getD, List.getElem?_eq_getElem (by omega)]; rfl
    have e17 : [n] = (L.drop 17).take 1 := by
      have : L[17]'(by omega) = n := by have := hn; rw [List.getElem?_eq_getElem (by omega)] at this; injection this
      rw [List.drop_eq_getElem_cons (by omega), List.take_succ_cons, List.take_zero, this]
    have es := slots_are hL hb h its.length (Nat.le_refl _)
    have et := tail_is hL h its.length (Nat.le_refl _)
    rw [List.take_length] at es et
    rw [sumTo_all] at et
    unfold PG.body PG.mid PG.head pgOf
    dsimp only
    rw [List.take_length, Int.toNat_natCast, e8, e4, e12, hlen, e17, ← es, ← et, hlen]
    have eg : List.replicate (494 - 2 * n - sumTo its n) 0 = (L.drop (18 + 2 * n)).take (endOf its - (18 + 2 * n)) := by
      apply List.ext_getElem?
      intro j
      have hs : sumTo its n = (its.map List.length).sum := by rw [← hlen, sumTo_all]
      unfold endOf at hgap ⊢
      rw [hs]
      by_cases hj : j < 512 - (its.map List.length).sum - (18 + 2 * n)
      · rw [List.getElem?_take, if_pos hj, List.getElem?_drop, hgap (18 + 2 * n + j) (by omega) (by omega), List.getElem?_replicate, if_pos (by omega)]
      · rw [List.getElem?_replicate, if_neg (by omega), List.getElem?_take, if_neg hj]
    rw [eg]
    have p1 : (L.drop 4).take 8 ++ (L.drop 12).take 1 = (L.drop 4).take 9 := by rw [show 9 = 8 + 1 by rfl, List.take_add, List.drop_drop]
    have p2 : (L.drop 4).take 9 ++ (L.drop 13).take 4 = (L.drop 4).take 13 := by rw [show 13 = 9 + 4 by rfl, List.take_add, List.drop_drop]
    have p3 : (L.drop 4).take 13 ++ (L.drop 17).take 1 = (L.drop 4).take 14 := by rw [show 14 = 13 + 1 by rfl, List.take_add, List.drop_drop]
    have p4 : (L.drop 4).take 14 ++ (L.drop 18).take (2 * n) = (L.drop 4).take (14 + 2 * n) := by rw [List.take_add, List.drop_drop]
    have p5 : (L.drop 4).take (14 + 2 * n) ++ (L.drop (18 + 2 * n)).take (endOf its - (18 + 2 * n)) = (L.drop 4).take (endOf its - 4) := by
      unfold endOf
      rw [show 512 - (its.map List.length).sum - 4 = (14 + 2 * n) + (512 - (its.map List.length).sum - (18 + 2 * n)) by omega]
      conv => rhs; rw [List.take_add, List.drop_drop]
      rw [show 4 + (14 + 2 * n) = 18 + 2 * n by omega]
    rw [p1, p2, p3, p4, p5]
    have p6 := List.take_append_drop (endOf its - 4) (L.drop 4)
    rw [List.drop_drop, show 4 + (endOf its - 4) = endOf its by unfold endOf; omega] at p6
    exact p6
  refine ⟨?_, ?_⟩
  · unfold pageL
    rw [hbody, ← hm4, List.take_append_drop]
  · unfold PG.Fit
    show 18 + 2 * its.length + (its.map List.length).sum ≤ 512
    rw [hlen]; exact hfit

end Go.Proofs.YtbagmmncjmbboaaGreat

/-
  The walk of page's Parse at 512 bytes whose sum, LSN and count are right.
-/
namespace Go.Proofs.YtbagmmncjmbboaaGreat
open Go.RowKit Go.Maps
set_option linter.unusedVariables false

/-- All slots are right, and what lies between is empty. -/
def PreFull (L : List Nat) (n : Nat) (its : List (List Nat)) : Prop := its.length = n ∧ ∀ j, 18 + 2 * n ≤ j → j < endOf its → L[j]? = some 0

/-- What holds at the label 'none'. -/
def NoneJ (w : World) (R : Prop) (a : Act) (w' : World) : Prop := (∃ tm : Array Value, a = { tmps := tm, defers := [] } ∧ tm.size = 121) ∧ R ∧ Below w.heap.size w w'

set_option maxRecDepth 100000 in
set_option maxHeartbeats 4000000 in
theorem pageParse_pre (w : World) (L : List Nat) (hlen : L.length = 512) (n : Nat) (h17 : L[17]? = some n) (hn100 : n ≤ 100) (its : List (List Nat)) (hP : Pre L n its) (cs : Nat) (hcs : cs = crcSum (L.drop 4)) (hsum : leV (L.take 4) = cs) (ls : Nat) (hls : leV ((L.drop 4).take 8) = ls) (hls2 : ls ≤ 9223372036854775807) (b o c : Nat) (hc : 512 ≤ c) (hc2 : c ≤ 9223372036854775807) (hb : b < w.heap.size) (hv : RB w w.heap.size (.slice (some ⟨b, o, none⟩) 512 c) L) :
    Calls Tryz.prog 34 #[.slice (some ⟨b, o, none⟩) 512 c] w fun e w' => Below w.heap.size w w' ∧ ((e = .returned (.tuple #[.pointer none, .int .i64 80]) ∧ ¬ PreFull L n its) ∨ (PreFull L n its ∧ ∃ p v' xs, e = .returned (.tuple #[.pointer (some ⟨p, 0, none⟩), .int .i64 0]) ∧ PageAt w' p w.heap.size v' xs (pgOf L its))) := by
  obtain ⟨m, hm0⟩ : ∃ m, m = pgOf L its := ⟨_, rfl⟩
  have hm : m.Ok := by rw [hm0]; exact pgOf_ok hlen hv.1 hn100 (by rw [hls]; exact hls2) hP.toPre0
  have hmi : m.items = its := by rw [hm0]; rfl
  have hml : m.lsn = (ls : Int) := by rw [hm0, ← hls]; rfl
  obtain ⟨kd, hkd⟩ : ∃ kd, kd = m.kind := ⟨_, rfl⟩
  obtain ⟨ex, hexx⟩ : ∃ ex, ex = m.extra := ⟨_, rfl⟩
  have e12 : L[12]? = some kd := by rw [hkd, hm0]; show _ = some (L.getD 12 0); rw [List.getD, List.getElem?_eq_getElem (by omega)]; rfl
  have e13 : leV ((L.drop 13).take 4) = ex := by rw [hexx, hm0]; rfl
  have hk := hm.kind
  have hex := hm.extra
  rw [← hkd] at hk
  rw [← hexx] at hex
  obtain ⟨nI, hnI⟩ : ∃ nI, nI = m.items.length := ⟨_, rfl⟩
  have hnIn : nI ≤ n := by rw [hnI, hmi]; exact hP.len
  have HM := Lib.hid hm
  have HM0 := Lib.hid hm0
  have HMI := Lib.hid hmi
  have HN := Lib.hid hnI
  have HPR := Lib.hid hP
  have HV := Lib.hid hv
  have HLS := Lib.hid hml
  have HKD := Lib.hid hkd
  have HEX := Lib.hid hexx
  have HE12 := Lib.hid e12
  have HE13 := Lib.hid e13
  have HLS8 := Lib.hid hls
  have HCS := Lib.hid hcs
  have hcs32 : cs < 4294967296 := by rw [hcs]; exact crcSum_lt _ (fun x hx => hv.1 x (List.mem_of_mem_drop hx))
  have hucs : IntKind.u64.wrap (cs : Int) = (cs : Int) := by rw [IntKind.wrap_u64]; omega
  have R0 : Hid (RB w w.heap.size (.slice (some ⟨b, o, none⟩) 4 c) (L.take 4)) := by
    have := hv.sub (lo := 0) (m := 4) (c' := c) (by omega) (by omega) hc2
    rw [List.drop_zero, Nat.add_zero] at this; exact this
  have R1 : Hid (RB w w.heap.size (.slice (some ⟨b, o + 4, none⟩) 508 (c - 4)) (L.drop 4)) := by
    have := hv.sub (lo := 4) (m := 508) (c' := c - 4) (by omega) (by omega) (by omega)
    rw [List.take_of_length_le (by rw [List.length_drop]; omega)] at this; exact this
  have E0 : Hid (leV (L.take 4) = cs) := hsum
  have hbd : ∀ k, k ≤ nI → 18 + 2 * n + sumTo m.items k ≤ 512 := fun k hk => by
    have h1 := sumTo_mono (L := its) (k := k)
    have h2 := hP.fit
    rw [hmi]; omega
  have HBD := Lib.hid hbd
  have H17 := Lib.hid h17
  clear hm hv hm0 hmi hml hkd hexx hcs hls hbd hP hnI e12 e13 hsum h17
  go_enter Tryz.func34, Tryz.ntmps34
  go_wp2
  refine wp_scope_jumps 0 (NoneJ w (¬ PreFull L n its)) (fun _ _ => 0) rfl ?first ?pass
  case pass =>
    rintro a' w' ⟨⟨tm, rfl, hsz⟩, hnf, hbl⟩
    go_wp2
    simp only [Exit.jump]
    refine bodyPost_ret (v := .tuple #[.pointer none, .int .i64 80]) ?_ rfl ⟨hbl, .inl ⟨rfl, hnf⟩⟩
    simp only [results, Tryz.results34]
    have h2 : 2 < tm.size := by omega
    have h3 : 3 < tm.size := by omega
    go_simp
  case first =>
    go_wp2_with fail
    obtain ⟨W1, hW1⟩ : ∃ W1, W1 = w.alloc (.cells #[.int .i64 0, .int .u8 0, .int .u32 0, .slice none 0 0] 122) := ⟨_, rfl⟩
    rw [← hW1]
    obtain ⟨p, hp⟩ : ∃ p, p = w.heap.size := ⟨_, rfl⟩
    have hP1 : PageAt W1 p p (.slice none 0 0) [] ⟨0, 0, 0, []⟩ := by
      rw [hW1, hp]
      exact ⟨⟨by simp, by simp, by simp, by simp, by simp⟩, Blk.new _ _ _, OK.nil _ _, rfl, by simp, by simp [Value.ownBlock], Nat.le_refl _⟩
    have hw1 : Below p w W1 := by rw [hW1, hp]; exact (Below.refl _ _).alloc (Nat.le_refl _) _
    rw [← hp]
    have hbp : b < p := by omega
    have HP1 := Lib.hid hP1
    have HW1 := Lib.hid hw1
    have HP := Lib.hid hp
    have RA : Hid (RB W1.drew p (.slice (some ⟨b, o, none⟩) 4 c) (L.take 4)) := by show RB _ _ _ _; rw [HP.out]; exact (R0.out.below (by rw [← HP.out]; exact HW1.out)).drew
    have RA2 : Hid (RB (W1.drew.alloc (.cells #[.slice (some ⟨b, o + 4, none⟩) 508 (c - 4)] 22)) p (.slice (some ⟨b, o, none⟩) 4 c) (L.take 4)) := RA.out.alloc (Nat.le_of_lt HP1.out.lt) _
    have RS : Hid (RP (W1.drew.alloc (.cells #[.slice (some ⟨b, o + 4, none⟩) 508 (c - 4)] 22)) p W1.heap.size 0 [L.drop 4]) := RP.one rfl (Below.refl _ _).drew (by rw [HP.out]; exact R1.out.below (by rw [← HP.out]; exact HW1.out)) (Nat.le_of_lt HP1.out.lt)
    have hL4 : (L.take 4).length ≤ 8 := by rw [List.length_take]; omega
    have hc4 : (4 : Int) ≤ (c : Int) := by omega
    have hc4n : ¬ c = 4 := by omega
    clear hW1 hP1 hw1 hp
    go_region_held3 (fun _ => True) (trivial)
      (first
        | (go_at_call 72; refine (leGet_v (B := p) (by first | exact RA.out | exact RA2.out) hL4 E0.out).mono ?_; rintro e7 w7 ⟨rfl, rfl⟩)
        | (go_at_call 68; refine (sum_one RS.out HCS.out).mono ?_; rintro e7 w7 ⟨rfl, rfl⟩))
    all_goals (
      obtain ⟨W2, hW2, hP2, hw2, hr2⟩ : ∃ W2, W2 = (W1.alloc (.cells #[.slice (some ⟨b, o + 4, none⟩) 508 (c - 4)] 22)).drew ∧ PageAt W2 p p (.slice none 0 0) [] ⟨0, 0, 0, []⟩ ∧ Below p w W2 ∧ RB W2 p (.slice (some ⟨b, o, none⟩) 512 c) L :=
        ⟨_, rfl, (HP1.out.alloc _).below (Below.refl _ _).drew, (HW1.out.alloc (Nat.le_of_lt HP1.out.lt) _).drew, by
          have h1 : RB w p (.slice (some ⟨b, o, none⟩) 512 c) L := by rw [HP.out]; exact HV.out
          exact ((h1.below HW1.out).alloc (Nat.le_of_lt HP1.out.lt) _).drew⟩
      rw [← hW2]
      have R5 : Hid (RB W2 p (.slice (some ⟨b, o + 4, none⟩) 8 (c - 4)) ((L.drop 4).take 8)) := hr2.sub (by omega) (by omega) (by omega)
      have E5 : Hid (leV ((L.drop 4).take 8) = ls) := HLS8
      have hl8 : ((L.drop 4).take 8).length ≤ 8 := by rw [List.length_take]; omega
      have hgt : decide ((9223372036854775807 : Int) < (ls : Int)) = false := by simp; omega
      have hgt2 : ¬ (9223372036854775807 : Int) < (ls : Int) := by omega
      have hn100 : decide ((100 : Int) < (n : Int)) = false := by simp; omega
      have hn100b : ¬ (100 : Int) < (n : Int) := by omega
      have e17 : L[17]? = some n := H17.out
      have k17 : W2.cell? ⟨b, o + 17, none⟩ = some (.int .u8 (n : Int)) := by
        obtain ⟨_, _, A, c0, e, _, _, h5⟩ := hr2
        injection e with e _ _
        rcases h5 with h5 | ⟨b', off, e', _, hx⟩
        · rw [h5] at e17; cases e17
        · rw [← e] at e'
          injection e' with e'
          injection e' with e4 e5
          subst e4 e5
          exact hx 17 n e17
      have hc12 : (12 : Int) ≤ (c : Int) := by omega
      have HP2 := Lib.hid hP2
      have HW2 := Lib.hid hw2
      have HR2 := Lib.hid hr2
      clear hW2 hP2 hw2 hr2 RA RA2 RS hL4 e17
      go_wp2_with fail
      refine (leGet_v R5.out hl8 E5.out).mono ?_
      rintro e7 w7 ⟨rfl, hw7⟩
      subst w7
      go_wp2_with fail
      refine (clone_any _ _ L (HR2.out.more (Nat.le_of_lt HP2.out.lt))).mono ?_
      rintro e8 w3 ⟨v3, rfl, ho3, hb3⟩
      obtain ⟨g, cap, rfl, hg1, hg2, hg3, hg4, -⟩ := ho3.form (by omega)
      rw [hlen] at ho3 hg3
      have hR3 : RB w3 w3.heap.size (.slice (some ⟨g, 0, none⟩) 512 cap) L := ho3.rbn
      have HR3 := Lib.hid hR3
      have HW3 : Hid (Below p w w3) := HW2.out.trans (hb3.mono (Nat.le_of_lt HP2.out.lt))
      have HP3 := Lib.hid (HP2.out.below hb3)
      have hgp : p < g := by have := HP2.out.lt; omega
      have hR7 : RB w3 w3.heap.size (.slice (some ⟨g, 4, none⟩) 8 (cap - 4)) ((L.drop 4).take 8) := by have := hR3.sub (lo := 4) (m := 8) (c' := cap - 4) (by omega) (by omega) (by omega); rw [Nat.zero_add] at this; exact this
      have hR9 : RB w3 w3.heap.size (.slice (some ⟨g, 13, none⟩) 4 (cap - 13)) ((L.drop 13).take 4) := by have := hR3.sub (lo := 13) (m := 4) (c' := cap - 13) (by omega) (by omega) (by omega); rw [Nat.zero_add] at this; exact this
      have HO3 : Hid (OB w3 W2.heap.size (.slice (some ⟨g, 0, none⟩) 512 cap) L) := Lib.hid ho3
      have kcell : ∀ (i x : Nat), L[i]? = some x → w3.cell? ⟨g, i, none⟩ = some (.int .u8 (x : Int)) := fun i x hx => by
        obtain ⟨_, _, A, c0, e, _, _, h5⟩ := hR3
        injection e with e _ _
        rcases h5 with h5 | ⟨b', off, e', _, hx'⟩
        · rw [h5] at hx; cases hx
        · rw [← e] at e'
          injection e' with e'
          injection e' with e4 e5
          subst e4 e5
          have := hx' i x hx
          rw [Nat.zero_add] at this; exact this
      have k12 : w3.cell? ⟨g, 12, none⟩ = some (.int .u8 (kd : Int)) := kcell 12 kd HE12.out
      have kg17 : w3.cell? ⟨g, 17, none⟩ = some (.int .u8 (n : Int)) := kcell 17 n H17.out
      have HKC := Lib.hid kcell
      have E9 : Hid (leV ((L.drop 13).take 4) = ex) := HE13
      have hl4 : ((L.drop 13).take 4).length ≤ 8 := by rw [List.length_take]; omega
      have hcap4 : (12 : Int) ≤ (cap : Int) := by omega
      have hcap17 : (17 : Int) ≤ (cap : Int) := by omega
      have hn4 : ¬ cap = 4 := by omega
      have hn13 : ¬ cap = 13 := by omega
      have hwl : IntKind.i64.wrap (ls : Int) = (ls : Int) := by rw [IntKind.wrap_i64]; omega
      have hwe : IntKind.u32.wrap (ex : Int) = (ex : Int) := by rw [IntKind.wrap_u32]; omega
      have q0 : w3.cell? ⟨p, 0, none⟩ = some (.int .i64 0) := HP3.out.blk.cell 0
      have q0f := HP3.out.blk.frozen 0
      have q1 : w3.cell? ⟨p, 1, none⟩ = some (.int .u8 0) := HP3.out.blk.cell 1
      have q1f := HP3.out.blk.frozen 1
      have q2 : w3.cell? ⟨p, 2, none⟩ = some (.int .u32 0) := HP3.out.blk.cell 2
      have q2f := HP3.out.blk.frozen 2
      have hgp1 : ¬ g = p := by omega
      have hgp2 : ¬ p = g := by omega
      have R7 := Lib.hid hR7
      have R9 := Lib.hid hR9
      clear hR3 ho3 hb3 hR7 hR9 kcell k17 hgt hgt2 hg1
      go_wp2_with fail
      refine (leGet_v R7.out hl8 E5.out).mono ?_
      rintro e9 w9 ⟨rfl, hw9⟩
      subst w9
      obtain ⟨W4, hW4⟩ : ∃ W4, W4 = w3.setCell ⟨p, 0, none⟩ (.int .i64 (ls : Int)) := ⟨_, rfl⟩
      obtain ⟨W5, hW5⟩ : ∃ W5, W5 = W4.setCell ⟨p, 1, none⟩ (.int .u8 (kd : Int)) := ⟨_, rfl⟩
      have hpw3 : p < w3.heap.size := HP3.out.lt
      have hb4 : Blk W4 p 122 #[.int .i64 (ls : Int), .int .u8 ((0 : Nat) : Int), .int .u32 ((0 : Nat) : Int), .slice none 0 0] := by rw [hW4]; exact HP3.out.blk.set_ 0 (.int .i64 (ls : Int))
      have hb5 : Blk W5 p 122 #[.int .i64 (ls : Int), .int .u8 (kd : Int), .int .u32 ((0 : Nat) : Int), .slice none 0 0] := by rw [hW5]; exact hb4.set_ 1 (.int .u8 (kd : Int))
      have hm4 : Mod (fun q => q = p) w3 W4 := by rw [hW4]; exact mod_set
      have hm5 : Mod (fun q => q = p) w3 W5 := by rw [hW5]; exact hm4.trans' mod_set
      have hgl := (HO3.out.lt g rfl).2
      have R9b : Hid (RB ((w3.setCell ⟨p, 0, none⟩ (.int .i64 (ls : Int))).setCell ⟨p, 1, none⟩ (.int .u8 (kd : Int))) ((w3.setCell ⟨p, 0, none⟩ (.int .i64 (ls : Int))).setCell ⟨p, 1, none⟩ (.int .u8 (kd : Int))).heap.size (.slice (some ⟨g, 13, none⟩) 4 (cap - 13)) ((L.drop 13).take 4)) := by
        have := R9.out.mod hm5 (.inr fun b' e he => by injection e with e; simp at e; omega)
        rw [hW5, hW4] at this
        exact this
      have HM5 := Lib.hid hm5
      have HB5 := Lib.hid hb5
      have HW4 := Lib.hid hW4
      have HW5 := Lib.hid hW5
      clear hW4 hW5 hb4 hb5 hm4 hm5
      go_wp2_with fail
      refine (leGet_v R9b.out hl4 E9.out).mono ?_
      rintro e10 w10 ⟨rfl, hw10⟩
      subst w10
      have hwn : IntKind.i64.wrap (n : Int) = (n : Int) := by rw [IntKind.wrap_i64]; omega
      have k17c : (((w3.setCell ⟨p, 0, none⟩ (.int .i64 (ls : Int))).setCell ⟨p, 1, none⟩ (.int .u8 (kd : Int))).setCell ⟨p, 2, none⟩ (.int .u32 (ex : Int))).cell? ⟨g, 17, none⟩ = some (.int .u8 (n : Int)) := by
        have hm : Mod (fun q => q = p) w3 (((w3.setCell ⟨p, 0, none⟩ (.int .i64 (ls : Int))).setCell ⟨p, 1, none⟩ (.int .u8 (kd : Int))).setCell ⟨p, 2, none⟩ (.int .u32 (ex : Int))) := (mod_set.trans' mod_set).trans' mod_set
        exact (hm.cell hgl hgp1 17).trans kg17
      have hcap18 : (17 : Int) < (cap : Int) := by omega
      go_wp2_with fail
      obtain ⟨W6, hW6, hP6, hR6, hw6⟩ : ∃ W6, W6 = ((w3.setCell ⟨p, 0, none⟩ (.int .i64 (ls : Int))).setCell ⟨p, 1, none⟩ (.int .u8 (kd : Int))).setCell ⟨p, 2, none⟩ (.int .u32 (ex : Int)) ∧ PageAt W6 p p (.slice none 0 0) [] (m.first 0) ∧ RB W6 W6.heap.size (.slice (some ⟨g, 0, none⟩) 512 cap) L ∧ Below p w W6 := by
        have hm : Mod (fun q => q = p) w3 (((w3.setCell ⟨p, 0, none⟩ (.int .i64 (ls : Int))).setCell ⟨p, 1, none⟩ (.int .u8 (kd : Int))).setCell ⟨p, 2, none⟩ (.int .u32 (ex : Int))) := (mod_set.trans' mod_set).trans' mod_set
        refine ⟨_, rfl, ⟨HM.out.first 0, ?_, OK.nil _ _, rfl, fun j x l hx => by simp at hx, by simp [Value.ownBlock], Nat.le_refl _⟩, HR3.out.mod hm (.inr fun b' e he => by injection e with e; simp at e; omega), HW3.out.trans (hm.below (Nat.le_of_lt HP3.out.lt) (fun k e => Nat.le_of_eq e.symm))⟩
        have h0 := ((HP3.out.blk.set_ 0 (.int .i64 (ls : Int))).set_ 1 (.int .u8 (kd : Int))).set_ 2 (.int .u32 (ex : Int))
        unfold PG.first
        dsimp only
        rw [HLS.out, ← HKD.out, ← HEX.out]
        exact h0
      rw [← hW6]
      have HP6 := Lib.hid hP6
      have HR6 := Lib.hid hR6
      have HW6 := Lib.hid hw6
      clear hW6 hP6 hR6 hw6 q0 q0f q1 q1f q2 q2f k12 kg17 k17c hwl hwe hcap4 hcap17 hcap18 hn4 hn13
      go_loopw [7, 65] (fun bg i wr => ∃ (k e : Nat) (A : Option Addr) (cr : Nat) (xs : List Sl), k ≤ nI ∧ i = .int .i64 k ∧ bg = .int .i64 e ∧ Hid (e = 512 - sumTo m.items k) ∧ Hid (PageAt wr p p (.slice A k cr) xs (m.first k)) ∧ Hid (RB wr wr.heap.size (.slice (some ⟨g, 0, none⟩) 512 cap) L) ∧ Hid (Below p w wr) ∧ Hid ((Value.slice A k cr).ownBlock ≠ some g)) (fun bg i wr => n - (intOf i).toNat)
      case atStart => exact ⟨0, 512, none, 0, [], Nat.zero_le _, rfl, rfl, rfl, HP6, HR6, HW6, by simp [Value.ownBlock]; exact Lib.hid trivial⟩
      case round =>
        obtain ⟨k, e, A, cr, xs, hkn, rfl, rfl, HE, HPG, HRR, HWW, HNG⟩ := hrel
        have hee := HE.out
        by_cases hlt : k < nI
        · have hki : k < m.items.length := by rw [← HN.out]; exact hlt
          obtain ⟨it, hit⟩ : ∃ it, it = m.items[k] := ⟨_, rfl⟩
          have hs := sumTo_succ hki
          rw [← hit] at hs
          have h1 := HBD.out (k + 1) (by omega)
          have hnn := HBD.out nI (Nat.le_refl _)
          have hkn2 : k < n := by omega
          have hk0 := HBD.out k (by omega)
          have hit200 : it.length ≤ 200 := by rw [hit]; exact HM.out.item _ (List.getElem_mem _)
          obtain ⟨e', he'⟩ : ∃ e', e' = 512 - sumTo m.items (k + 1) := ⟨_, rfl⟩
          have hitl : e - e' = it.length := by omega
          have he512 : e' ≤ 512 := by omega
          have hee' : e' ≤ e := by omega
          have R16 : Hid (RB wr wr.heap.size (.slice (some ⟨g, 18 + 2 * k, none⟩) 2 (cap - (18 + 2 * k))) ((L.drop (18 + 2 * k)).take 2)) := by
            have h3 := HRR.out.sub (lo := 18 + 2 * k) (m := 2) (c' := cap - (18 + 2 * k)) (by omega) (by omega) (by omega)
            rw [Nat.zero_add] at h3
            exact h3
          have E16 : Hid (leV ((L.drop (18 + 2 * k)).take 2) = e') := by
            have h5 := HPR.out.slot k (by rw [← HMI.out]; exact hki)
            unfold slotV at h5
            rw [he', HMI.out]; exact h5
          have hl2 : ((L.drop (18 + 2 * k)).take 2).length ≤ 8 := by rw [List.length_take]; omega
          have hsl := slB_lh (b := g) (o := 0) (n := 512) (cap := cap) (lo := 18 + 2 * k) (hi := 18 + 2 * (k + 1)) (i := 18 + 2 * (k : Int)) (j := 18 + 2 * ((k : Int) + 1)) (by omega) (by omega) (by omega) (by omega)
          rw [show 18 + 2 * (k + 1) - (18 + 2 * k) = 2 by omega, if_neg (by omega), Nat.zero_add] at hsl
          have hwk : IntKind.i64.wrap ((k : Int) + 1) = (k : Int) + 1 := by rw [IntKind.wrap_i64]; omega
          have hwe1 : IntKind.i64.wrap (e' : Int) = (e' : Int) := by rw [IntKind.wrap_i64]; omega
          have hws : IntKind.i64.wrap ((e : Int) - (e' : Int)) = (e : Int) - (e' : Int) := by rw [IntKind.wrap_i64]; omega
          have d1 : decide ((e : Int) < (e' : Int)) = false := by simp; omega
          have d2 : decide ((e' : Int) < 18 + 2 * (n : Int)) = false := by simp; omega
          have d3 : decide ((200 : Int) < (e : Int) - (e' : Int)) = false := by simp; omega
          have hsl3 := slB_lh (b := g) (o := 0) (n := 512) (cap := cap) (lo := e') (hi := e) (i := (e' : Int)) (j := (e : Int)) rfl rfl hee' (by omega)
          obtain ⟨of, hof⟩ : ∃ of, of = if cap = e' then 0 else 0 + e' := ⟨_, rfl⟩
          rw [← hof] at hsl3
          have hrx : RB wr wr.heap.size (.slice (some ⟨g, of, none⟩) (e - e') (cap - e')) it := by
            by_cases hce : cap = e'
            · have : it = [] := List.eq_nil_of_length_eq_zero (by omega)
              subst this
              exact ⟨by simp, by simp, some ⟨g, of, none⟩, cap - e', by rw [hitl], by simp, by omega, .inl rfl⟩
            · have h3 := HRR.out.sub (lo := e') (m := e - e') (c' := cap - e') (by omega) (by omega) (by omega)
              have hpi : (L.drop (512 - sumTo m.items (k + 1))).take m.items[k].length = m.items[k] := by
                have h5 := HPR.out.item k (by rw [← HMI.out]; exact hki)
                simp only [HMI.out]
                exact h5
              rw [← he', ← hit, ← hitl] at hpi
              rw [hpi] at h3
              rw [hof, if_neg hce]; exact h3
          have HRX := Lib.hid hrx
          have HIT : Hid (m.items[k]? = some it) := by show _ = _; rw [List.getElem?_eq_getElem hki, hit]
          have HE' := Lib.hid he'
          have cg : wr.cell? ⟨p, 3, none⟩ = some (.slice A k cr) := HPG.out.blk.cell 3
          have cga : (wr.alloc (.cells #[.slice (some ⟨g, of, none⟩) (e - e') (cap - e')] 22)).cell? ⟨p, 3, none⟩ = some (.slice A k cr) := ((HPG.out.alloc _).blk.cell 3)
          have hn1 : (0 : Int) ≤ (n : Int) ∧ (n : Int) ≤ 1000000 := by omega
          clear hs h1 hnn hk0 hit he' hrx hof hit200 hee hitl
          go_wp2_with (first
            | (go_at_call 67; refine (slotAt_any _ _ (by omega)).mono ?_; rintro e11 w11 ⟨rfl, rfl⟩)
            | (go_at_call 72; refine (leGet_v R16.out hl2 E16.out).mono ?_; rintro e12 w12 ⟨rfl, hw12⟩; subst w12))
          have HPGd : Hid (PageAt wr.drew p p (.slice A k cr) xs (m.first k)) := HPG.out.below (Below.refl _ _).drew
          have HRXd : Hid (RB wr.drew wr.drew.heap.size (slV ((some ⟨g, of, none⟩, e - e', cap - e') : Sl)) it) := HRX.out.drew
          have HOFd : Hid (Off (fun q => q = p ∨ (Value.slice A k cr).ownBlock = some q) (slV ((some ⟨g, of, none⟩, e - e', cap - e') : Sl)) it) := .inr fun b' hb' e5 => by
            injection hb' with hb'
            simp at hb'
            subst hb'
            rcases e5 with e5 | e5
            · exact hgp1 e5
            · exact HNG.out e5
          clear d1 d2 d3 hws hwe1 hwk hsl hl2 R16 E16 hn1
          go_region_law (first
            | (refine app_armD (w := wr) (x := ((some ⟨g, of, none⟩, e - e', cap - e') : Sl)) HPG.out HM.out HN.out hlt HIT.out HRX.out HOFd.out rfl (.tmp 97) (.tmp 102) rfl rfl rfl ?_; intro A' c' w' k3 f3 HALL))
          all_goals (
            have hall := HALL.out
            go_wp2_with fail
            go_roundw
            case rel =>
              refine ⟨k + 1, e', A', c', _, by omega, by go_num, rfl, HE', hall.1, HRR.out.drew.mod hall.2.1 (.inr fun b' hb' e5 => ?_), ?_, ?_⟩
              · injection hb' with hb'
                simp at hb'
                subst hb'
                rcases e5 with e5 | e5
                · exact hgp1 e5
                · exact HNG.out e5
              · exact HWW.out.drew.trans (hall.2.1.below (Nat.le_of_lt HPG.out.lt) (fun q e5 => by
                  rcases e5 with e5 | e5
                  · exact Nat.le_of_eq e5.symm
                  · exact (HPG.out.row.lt q e5).1))
              · intro e5
                rcases hall.2.2 with h6 | h6
                · rw [h6] at e5; exact HNG.out e5
                · have h7 := h6 g e5
                  have h8 : g < wr.heap.size := by
                    obtain ⟨_, _, A9, c9, e9, _, _, h9⟩ := HRR.out
                    injection e9 with e9 _ _
                    rcases h9 with h9 | ⟨b', off, e10, hb', _⟩
                    · rw [h9] at hlen; simp at hlen
                    · rw [← e9] at e10; injection e10 with e10; injection e10 with e10; omega
                  have h7' : wr.heap.size ≤ g := h7
                  omega
            case measure => simp [intOf]; omega)
        · obtain rfl : k = nI := by omega
          by_cases hkn2 : k < n
          · -- the slot is wrong
            have hst := HPR.out.stop
            rw [← HMI.out, ← HN.out] at hst
            have hend : endOf m.items = e := by unfold endOf; rw [hee, HN.out, sumTo_all]
            rw [hend] at hst
            obtain ⟨e', he'⟩ : ∃ e', e' = slotV L k := ⟨_, rfl⟩
            rw [← he'] at hst
            have hbad : e < e' ∨ e' < 18 + 2 * n ∨ 200 < e - e' := by rcases hst with h | h <;> omega
            have hnf : ¬ PreFull L n its := fun hf => by have := hf.1; rw [← HMI.out, ← HN.out] at this; omega
            have HNF := Lib.hid hnf
            have R16 : Hid (RB wr wr.heap.size (.slice (some ⟨g, 18 + 2 * k, none⟩) 2 (cap - (18 + 2 * k))) ((L.drop (18 + 2 * k)).take 2)) := by
              have h3 := HRR.out.sub (lo := 18 + 2 * k) (m := 2) (c' := cap - (18 + 2 * k)) (by omega) (by omega) (by omega)
              rw [Nat.zero_add] at h3
              exact h3
            have E16 : Hid (leV ((L.drop (18 + 2 * k)).take 2) = e') := by show _ = _; rw [he']; rfl
            have hl2 : ((L.drop (18 + 2 * k)).take 2).length ≤ 8 := by rw [List.length_take]; omega
            have he16 : e' < 65536 := by
              have h1 := leV_lt ((L.drop (18 + 2 * k)).take 2) (fun x hx => HRR.out.1 x (List.mem_of_mem_drop (List.mem_of_mem_take hx)))
              have h2 : ((L.drop (18 + 2 * k)).take 2).length = 2 := by rw [List.length_take, List.length_drop]; omega
              rw [h2, E16.out] at h1
              exact h1
            have he512 : e ≤ 512 := by rw [hee]; omega
            have hsl := slB_lh (b := g) (o := 0) (n := 512) (cap := cap) (lo := 18 + 2 * k) (hi := 18 + 2 * (k + 1)) (i := 18 + 2 * (k : Int)) (j := 18 + 2 * ((k : Int) + 1)) (by omega) (by omega) (by omega) (by omega)
            rw [show 18 + 2 * (k + 1) - (18 + 2 * k) = 2 by omega, if_neg (by omega), Nat.zero_add] at hsl
            have hwk : IntKind.i64.wrap ((k : Int) + 1) = (k : Int) + 1 := by rw [IntKind.wrap_i64]; omega
            have hwe1 : IntKind.i64.wrap (e' : Int) = (e' : Int) := by rw [IntKind.wrap_i64]; omega
            have hws : IntKind.i64.wrap ((e : Int) - (e' : Int)) = (e : Int) - (e' : Int) := by rw [IntKind.wrap_i64]; omega
            have hn1 : (0 : Int) ≤ (n : Int) ∧ (n : Int) ≤ 1000000 := by omega
            have HBF : Hid (Below w.heap.size w wr) := Lib.hid (by rw [← HP.out]; exact HWW.out)
            clear hst hend he' hnf
            by_cases t1 : e < e'
            · have t1i : (e : Int) < (e' : Int) := by omega
              clear hbad
              go_wp2_with (first
                | (go_at_call 67; refine (slotAt_any _ _ (by omega)).mono ?_; rintro e11 w11 ⟨rfl, rfl⟩)
                | (go_at_call 72; refine (leGet_v R16.out hl2 E16.out).mono ?_; rintro e12 w12 ⟨rfl, hw12⟩; subst w12))
              (go_step3; exact ⟨rfl, ⟨_, rfl, rfl⟩, HNF.out, HBF.out⟩)
            · have t1i : ¬ (e : Int) < (e' : Int) := by omega
              by_cases t2 : e' < 18 + 2 * n
              · have t2i : (e' : Int) < 18 + 2 * (n : Int) := by omega
                clear hbad
                go_wp2_with (first
                  | (go_at_call 67; refine (slotAt_any _ _ (by omega)).mono ?_; rintro e11 w11 ⟨rfl, rfl⟩)
                  | (go_at_call 72; refine (leGet_v R16.out hl2 E16.out).mono ?_; rintro e12 w12 ⟨rfl, hw12⟩; subst w12))
                (go_step3; exact ⟨rfl, ⟨_, rfl, rfl⟩, HNF.out, HBF.out⟩)
              · have t2i : ¬ (e' : Int) < 18 + 2 * (n : Int) := by omega
                have t3i : (200 : Int) < (e : Int) - (e' : Int) := by omega
                clear hbad
                go_wp2_with (first
                  | (go_at_call 67; refine (slotAt_any _ _ (by omega)).mono ?_; rintro e11 w11 ⟨rfl, rfl⟩)
                  | (go_at_call 72; refine (leGet_v R16.out hl2 E16.out).mono ?_; rintro e12 w12 ⟨rfl, hw12⟩; subst w12))
                (go_step3; exact ⟨rfl, ⟨_, rfl, rfl⟩, HNF.out, HBF.out⟩)
          · -- all slots are right
            obtain rfl : k = n := by omega
            have hk0 := HBD.out k (Nat.le_refl _)
            have hn1 : (0 : Int) ≤ (k : Int) ∧ (k : Int) ≤ 1000000 := by omega
            have hsl := slB_lh (b := g) (o := 0) (n := 512) (cap := cap) (lo := 18 + 2 * k) (hi := e) (i := 18 + 2 * (k : Int)) (j := (e : Int)) (by omega) rfl (by omega) (by omega)
            have hcn : ¬ cap = 18 + 2 * k := by omega
            rw [if_neg hcn, Nat.zero_add] at hsl
            obtain ⟨z, hz⟩ : ∃ z, e - (18 + 2 * k) = z := ⟨_, rfl⟩
            rw [hz] at hsl
            have hgap : ∀ j (y : Nat), L[18 + 2 * k + j]? = some y → wr.cell? ⟨g, 18 + 2 * k + j, none⟩ = some (.int .u8 (y : Int)) := fun j y h3 => by
              obtain ⟨_, _, A9, c9, e9, _, _, h9⟩ := HRR.out
              injection e9 with e9 _ _
              rcases h9 with h9 | ⟨b', off, e10, hb', hx9⟩
              · rw [h9] at hlen; simp at hlen
              · rw [← e9] at e10
                injection e10 with e10
                injection e10 with e10 e11
                subst e10 e11
                have := hx9 _ y h3
                rw [Nat.zero_add] at this
                exact this
            have HGAP := Lib.hid hgap
            have hz512 : z ≤ 512 := by omega
            have hge : 18 + 2 * k ≤ e := by omega
            have hge5 : e ≤ 512 := by omega
            have hgez : 18 + 2 * k + z = e := by omega
            have HGE := Lib.hid (⟨hge, hge5, hgez⟩ : 18 + 2 * k ≤ e ∧ e ≤ 512 ∧ 18 + 2 * k + z = e)
            clear hgap hk0 hee hge hge5 hgez
            go_wp2_with (first
              | (go_at_call 67; refine (slotAt_any _ _ (by omega)).mono ?_; rintro e11 w11 ⟨rfl, rfl⟩))
            have hfirst : m.first k = m := by
              unfold PG.first
              rw [HN.out, List.take_length]
            have hfin : PageAt wr p w.heap.size (.slice A k cr) xs m := by
              have h5 := HPG.out
              rw [hfirst] at h5
              rw [← HP.out]; exact h5
            have hbf : Below w.heap.size w wr := by rw [← HP.out]; exact HWW.out
            have HFIN := Lib.hid hfin
            have HBF := Lib.hid hbf
            clear hfirst hfin hbf hsl
            have hzz : 18 + 2 * k + z = endOf its := by
              have h1 : endOf m.items = e := by unfold endOf; rw [HE.out, HN.out, sumTo_all]
              rw [← HMI.out, h1]; exact HGE.out.2.2
            have HZZ := Lib.hid hzz
            clear hzz
            go_loopw [113] (fun i wq => ∃ j : Nat, j ≤ z ∧ i = .int .i64 j ∧ wq = wr ∧ Hid (∀ q, q < j → L[18 + 2 * k + q]? = some 0)) (fun i wq => z - (intOf i).toNat)
            case atStart => exact ⟨0, Nat.zero_le _, rfl, rfl, Lib.hid (fun q hq => by omega)⟩
            case round =>
              obtain ⟨j, hj, rfl, rfl, HQ⟩ := hrel
              by_cases hjz : j < z
              · obtain ⟨y, hy⟩ : ∃ y, L[18 + 2 * k + j]? = some y := ⟨_, List.getElem?_eq_getElem (by have := HGE.out; omega)⟩
                have hcj := HGAP.out j y hy
                have hji : (j : Int) < (z : Int) := by omega
                have hy256 : y < 256 := HRR.out.1 y (List.mem_of_getElem? hy)
                have HY := Lib.hid hy
                clear hy
                by_cases hy0 : y = 0
                · subst hy0
                  go_wp2_with fail
                  go_roundw
                  case rel => exact ⟨j + 1, by omega, by go_num, by first | rfl | trivial, Lib.hid (fun q hq => by
                    by_cases h : q < j
                    · exact HQ.out q h
                    · obtain rfl : q = j := by omega
                      exact HY.out)⟩
                  case measure => simp [intOf]; omega
                · have hyi : ((y : Int) == 0) = false := by simpa using hy0
                  have hyi2 : ((y : Int) != 0) = true := by simpa using hy0
                  have HNF : Hid (¬ PreFull L k its) := Lib.hid (fun hf => by
                    have := hf.2 (18 + 2 * k + j) (by omega) (by rw [← HZZ.out]; omega)
                    rw [HY.out] at this
                    injection this with this
                    exact hy0 this)
                  go_wp2_with fail
                  (go_step3; exact ⟨rfl, ⟨_, rfl, rfl⟩, HNF.out, HBF.out⟩)
              · obtain rfl : j = z := by omega
                have HFU : Hid (PreFull L k its) := Lib.hid ⟨by rw [← HMI.out, ← HN.out], fun q h1 h2 => by
                  have := HQ.out (q - (18 + 2 * k)) (by rw [← HZZ.out] at h2; omega)
                  rwa [show 18 + 2 * k + (q - (18 + 2 * k)) = q by omega] at this⟩
                go_wp2_with fail
                (try simp only [Exit.jump]); go_ret2
                exact ⟨HBF.out, .inr ⟨HFU.out, p, _, xs, by first | rfl | trivial, by rw [← HM0.out]; exact HFIN.out⟩⟩)

end Go.Proofs.YtbagmmncjmbboaaGreat
