/-
  A page's bytes in plain words; the walk of page's Bytes.
-/
import Derived.Test.YtdghanhpeekbhaaZJ6
import Derived.Test.YtdghanhpeekbhaaYV12
namespace Go.Proofs.Ytdghanhpeekbhaa
open Go.RowKit Go.Maps
set_option linter.unusedVariables false

def slotsL : List (List Nat) → Nat → List Nat
  | [], _ => []
  | x :: r, e => digits (e - x.length) 2 ++ slotsL r (e - x.length)
theorem slotsL_len : ∀ (l : List (List Nat)) (e : Nat), (slotsL l e).length = 2 * l.length
  | [], _ => rfl
  | x :: r, e => by simp only [slotsL]; rw [List.length_append, digits_len, slotsL_len r, List.length_cons]; omega
theorem slotsL_snoc (x : List Nat) : ∀ (l : List (List Nat)) (e : Nat), slotsL (l ++ [x]) e = slotsL l e ++ digits (e - (l.map List.length).sum - x.length) 2
  | [], e => by simp [slotsL]
  | y :: r, e => by
    rw [List.cons_append]
    simp only [slotsL]
    rw [slotsL_snoc x r, List.append_assoc, List.map_cons, List.sum_cons, Nat.sub_add_eq]
def tailL (l : List (List Nat)) : List Nat := l.reverse.flatten
theorem tailL_snoc (l : List (List Nat)) (x : List Nat) : tailL (l ++ [x]) = x ++ tailL l := by simp [tailL]
theorem tailL_len (l : List (List Nat)) : (tailL l).length = (l.map List.length).sum := by
  unfold tailL
  rw [List.length_flatten, List.map_reverse, List.sum_reverse]
def PG.head (m : PG) : List Nat := digits m.lsn.toNat 8 ++ [m.kind] ++ digits m.extra 4 ++ [m.items.length]
theorem PG.head_len (m : PG) : m.head.length = 14 := by simp [PG.head, digits_len]
def PG.mid (m : PG) (k : Nat) : List Nat := m.head ++ slotsL (m.items.take k) 512 ++ List.replicate (494 - 2 * k - sumTo m.items k) 0 ++ tailL (m.items.take k)
def PG.body (m : PG) : List Nat := m.mid m.items.length
def pageL (m : PG) : List Nat := digits (crcSum m.body) 4 ++ m.body
/-- Its items and slots have room in a sector. -/
def PG.Fit (m : PG) : Prop := 18 + 2 * m.items.length + (m.items.map List.length).sum ≤ 512
theorem sumTo_mono {L : List (List Nat)} {k : Nat} : sumTo L k ≤ (L.map List.length).sum := by
  have h := congrArg (fun l : List (List Nat) => (l.map List.length).sum) (List.take_append_drop k L)
  simp only [List.map_append, List.sum_append] at h
  unfold sumTo
  omega
theorem PG.Fit.at_ {m : PG} (h : m.Fit) {k : Nat} (hk : k ≤ m.items.length) : 18 + 2 * k + sumTo m.items k ≤ 512 := by
  have h1 := sumTo_mono (L := m.items) (k := k)
  unfold PG.Fit at h
  omega
theorem PG.mid_len {m : PG} (h : m.Fit) {k : Nat} (hk : k ≤ m.items.length) : (m.mid k).length = 508 := by
  have h1 := h.at_ hk
  unfold PG.mid
  have h2 : ((m.items.take k).map List.length).sum = sumTo m.items k := rfl
  have h3 : (m.items.take k).length = k := by rw [List.length_take]; omega
  rw [List.length_append, List.length_append, List.length_append, PG.head_len, slotsL_len, List.length_replicate, tailL_len, h2, h3]
  omega
/-- One item more is written. -/
theorem pgMid_step {m : PG} (h : m.Fit) {k : Nat} (hk : k < m.items.length) :
    putAt (putAt (List.replicate 4 0 ++ m.mid k) (512 - sumTo m.items (k + 1)) m.items[k]) (18 + 2 * k) (digits (512 - sumTo m.items (k + 1)) 2) = List.replicate 4 0 ++ m.mid (k + 1) := by
  have h1 := h.at_ (k := k + 1) (by omega)
  have hs := sumTo_succ hk
  obtain ⟨q, hq⟩ : ∃ q, q = m.items[k].length := ⟨_, rfl⟩
  have ht : m.items.take (k + 1) = m.items.take k ++ [m.items[k]] := List.take_succ_eq_append_getElem hk
  have h3 : (m.items.take k).length = k := by rw [List.length_take]; omega
  obtain ⟨X, hX⟩ : ∃ X, X = List.replicate 4 0 ++ m.head ++ slotsL (m.items.take k) 512 := ⟨_, rfl⟩
  have hXl : X.length = 18 + 2 * k := by rw [hX, List.length_append, List.length_append, List.length_replicate, PG.head_len, slotsL_len, h3]
  obtain ⟨z, hz⟩ : ∃ z, z = 494 - 2 * k - sumTo m.items k := ⟨_, rfl⟩
  have e1 : List.replicate 4 0 ++ m.mid k = X ++ List.replicate z 0 ++ tailL (m.items.take k) := by unfold PG.mid; rw [hX, hz]; simp only [List.append_assoc]
  have hd : 512 - sumTo m.items (k + 1) = X.length + (z - m.items[k].length) := by rw [hXl, hz]; omega
  rw [e1, hd, putAt_zeros_end (by omega), ← hd, ← hXl]
  rw [putAt_zeros (T := m.items[k] ++ tailL (m.items.take k)) (by rw [digits_len]; omega), digits_len]
  unfold PG.mid
  rw [ht, slotsL_snoc, tailL_snoc, hX]
  have e2 : ((m.items.take k).map List.length).sum = sumTo m.items k := rfl
  rw [e2, show 512 - sumTo m.items k - m.items[k].length = 512 - sumTo m.items (k + 1) by omega, show z - m.items[k].length - 2 = 494 - 2 * (k + 1) - sumTo m.items (k + 1) by omega]
  simp only [List.append_assoc]
theorem mid_zero (m : PG) : List.replicate 4 0 ++ m.mid 0 = List.replicate 4 0 ++ m.head ++ List.replicate 494 0 ++ [] := by
  have h0 : m.mid 0 = m.head ++ [] ++ List.replicate 494 0 ++ [] := rfl
  rw [h0]
  simp only [List.append_assoc, List.append_nil]
theorem head_1 (d : List Nat) (hd : d.length = 8) : putAt sec0 4 d = List.replicate 4 0 ++ d ++ List.replicate 500 0 ++ [] := by
  have e : sec0 = List.replicate 4 0 ++ List.replicate 508 0 ++ [] := by unfold sec0; rw [List.append_nil, ← zeros_split]
  rw [e]
  have := putAt_zeros (X := List.replicate 4 0) (d := d) (T := []) (z := 508) (by omega)
  rw [hd, List.length_replicate] at this
  exact this
theorem head_2 {X : List Nat} {n y : Nat} (hX : X.length = n) {z : Nat} (hz : 1 ≤ z) : (X ++ List.replicate z 0 ++ []).set n y = (X ++ [y]) ++ List.replicate (z - 1) 0 ++ [] := by
  subst hX; exact set_zeros hz
theorem head_3 {X d : List Nat} {n z : Nat} (hX : X.length = n) (hd : d.length ≤ z) : putAt (X ++ List.replicate z 0 ++ []) n d = (X ++ d) ++ List.replicate (z - d.length) 0 ++ [] := by
  subst hX; exact putAt_zeros hd
theorem last_sum (b d : List Nat) (hd : d.length = 4) : putAt (List.replicate 4 0 ++ b) 0 d = d ++ b := by
  have := putAt_mid (P := []) (M := List.replicate 4 0) (T := b) (d := d) (by simpa using hd)
  simpa using this
end Go.Proofs.Ytdghanhpeekbhaa
