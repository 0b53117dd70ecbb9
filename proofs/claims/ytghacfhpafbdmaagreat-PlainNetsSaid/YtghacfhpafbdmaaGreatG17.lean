/-
  What slices.DeleteFunc leaves of Trees' lists: those with an element, in their order.
-/
import Derived.Test.YtghacfhpafbdmaaGreatG16
namespace Go.Proofs.YtghacfhpafbdmaaGreat
open Go.RowKit Go.Sort Go.Shelf
set_option linter.unusedVariables false

abbrev Sl := Option Addr × Nat × Nat
def encS (t : Sl) : Value := .slice t.1 t.2.1 t.2.2
def noneS (t : Sl) : Bool := decide (t.2.1 = 0)
theorem encS_one : OneCell encS := fun _ => rfl

/-- The slice value v reads as the lists ls. -/
def RLs (w : World) (B : Nat) (v : Value) (ls : List (List Int)) : Prop :=
  ∃ ts : List Sl, ts.length = ls.length ∧ RK (fun t => [encS t]) 1 w B v ts ∧ ∀ (i : Nat) t l, ts[i]? = some t → ls[i]? = some l → RI w B (encS t) l

theorem slices_of : ∀ vs : List Value, (∀ v ∈ vs, ∃ A n c, v = .slice A n c) → ∃ ts : List Sl, vs = ts.map encS
  | [], _ => ⟨[], rfl⟩
  | v :: r, h => by
    obtain ⟨A, n, c, rfl⟩ := h v (by simp)
    obtain ⟨ts, rfl⟩ := slices_of r fun x hx => h x (by simp [hx])
    exact ⟨(A, n, c) :: ts, rfl⟩
theorem OK.slice {α : Type} {enc : α → List Value} {k E : Nat} {w : World} {B : Nat} {v : Value} {xs : List α} (h : OK enc k E w B v xs) : ∃ A c, v = .slice A xs.length c := by
  rcases h.2.2 with ⟨h1, h2⟩ | ⟨g, cap, cur, h1, _⟩
  · exact ⟨none, 0, by rw [h1, h2]⟩
  · exact ⟨_, _, h1⟩

theorem filter_pair {R : Sl → List Int → Prop} : ∀ (ts : List Sl) (ls : List (List Int)), ts.length = ls.length → (∀ (i : Nat) t l, ts[i]? = some t → ls[i]? = some l → R t l ∧ t.2.1 = l.length) →
    (ts.filter fun t => !noneS t).length = (ls.filter fun l => !l.isEmpty).length ∧ ∀ (i : Nat) t l, (ts.filter fun t => !noneS t)[i]? = some t → (ls.filter fun l => !l.isEmpty)[i]? = some l → R t l
  | [], [], _, _ => ⟨rfl, fun i t l h => by simp at h⟩
  | [], _ :: _, h, _ => by simp at h
  | _ :: _, [], h, _ => by simp at h
  | t :: ts, l :: ls, h, hp => by
    obtain ⟨h1, h2⟩ := filter_pair ts ls (by simpa using h) fun i t l ht hl => hp (i + 1) t l (by simpa using ht) (by simpa using hl)
    obtain ⟨h3, h4⟩ := hp 0 t l rfl rfl
    cases l with
    | nil =>
      have : noneS t = true := by simp [noneS, h4]
      rw [List.filter_cons_of_neg (by simp [this]), List.filter_cons_of_neg (by simp)]
      exact ⟨h1, h2⟩
    | cons x l =>
      have : noneS t = false := by simp [noneS, h4]
      rw [List.filter_cons_of_pos (by simp [this]), List.filter_cons_of_pos (by simp)]
      refine ⟨by simp [h1], fun i u m hu hm => ?_⟩
      match i, hu, hm with
      | 0, hu, hm => simp at hu hm; subst hu hm; exact h3
      | i + 1, hu, hm => exact h2 i u m (by simpa using hu) (by simpa using hm)

theorem none_gives (t : Sl) (W : World) : FnGives Tryz.prog 62 #[] #[encS t] (.bool (noneS t)) W := by
  obtain ⟨A, n, c⟩ := t
  show Calls Tryz.prog 62 #[.slice A n c] W _
  unfold noneS
  by_cases h : n = 0
  · subst h
    go_enter Tryz.func62, Tryz.ntmps62
    go_wp2
    go_ret
    exact ⟨rfl, 0, rfl⟩
  · have h' : ((n : Int) == 0) = false := by simpa using h
    go_enter Tryz.func62, Tryz.ntmps62
    go_wp2
    go_ret
    exact ⟨by simp [h], 0, rfl⟩

theorem delete_any (w : World) (B g n : Nat) (vs : List Value) (ls : List (List Int)) (h : Grp encI 1 3 w B g 22 vs ls) (hn : n = ls.length) (hbig : n ≤ 1000000) :
    Calls Tryz.prog 61 #[.slice (some ⟨g, 0, none⟩) n n, .func (.func 62) #[] #[]] w fun e w' => ∃ lv, e = .returned lv ∧ RLs w' w'.heap.size lv (ls.filter fun l => !l.isEmpty) ∧ w.grownBy w' (some g) := by
  have hvl := h.len
  have hsl : ∀ v ∈ vs, ∃ A n c, v = .slice A n c := by
    intro v hv
    obtain ⟨i, hi⟩ := List.getElem?_of_mem hv
    have hil := (List.getElem?_eq_some_iff.1 hi).1
    obtain ⟨A, c, e⟩ := (h.own i v (ls[i]'(by omega)) hi (List.getElem?_eq_getElem _)).slice
    exact ⟨A, _, c, e⟩
  obtain ⟨ts, rfl⟩ := slices_of vs hsl
  rw [List.length_map] at hvl
  have eg : ∀ args w, (callFunc 62 args).run Tryz.prog w = .ok (.enter 62 args) w := enters_of Tryz.func62 (by kernel_rfl) rfl
  have v22 : ∀ w, (zeroValue 22).run Tryz.prog w = .ok (encS (none, 0, 0)) w := fun w => by kernel_rfl
  have hH : Holds encS w g 0 ts.toArray := by
    intro j hj
    have hj' : j < ts.length := by simpa using hj
    refine ⟨?_, h.blk.frozen _⟩
    rw [Nat.zero_add, h.blk.cell j]
    simp [hj']
  have hcon := Go.Proofs.Tryz.slices_DeleteFunc encS encS_one noneS 62 #[] eg (none, 0, 0) v22 g 0 n ts.toArray w (fun W t _ => none_gives t W) (fun m os dk t _ => none_gives t _) hH (by simp; omega) (by simp; omega)
  rw [show ts.toArray.size = n by simp; omega] at hcon
  refine hcon.mono ?_
  rintro e w' ⟨rfl, q, rfl⟩
  obtain ⟨f1, f2⟩ := filter_pair (R := fun t l => ∀ W : World, w.grownBy W (some g) → RI W W.heap.size (encS t) l) ts ls hvl (fun i t l ht hl => by
    have ho := h.own i (encS t) l (by simp [ht]) hl
    have hf := h.far i (encS t) (by simp [ht])
    refine ⟨fun W hg => (ho.kept hg (.inr hf)).rk encI_len (Nat.le_refl _), ?_⟩
    obtain ⟨A, c, e⟩ := ho.slice
    unfold encS at e
    injection e)
  have f3 : (ts.filter fun t => !noneS t).length ≤ n := by
    have := List.length_filter_le (fun t => !noneS t) ts
    omega
  dsimp only
  generalize hts : (ts.filter fun t => !noneS t) = fs at f1 f2 f3 ⊢
  have hsize : (fs ++ List.replicate (n - fs.length) ((none, 0, 0) : Sl)).toArray.size = (ts.map encS).toArray.size := by simp; omega
  have hblk := h.blk.putRow (n := q) (os := #[]) (en := encS) (fs ++ List.replicate (n - fs.length) ((none, 0, 0) : Sl)).toArray hsize
  have hgr : w.grownBy (putRow encS (Sort.ahead w q) g 0 (fs ++ List.replicate (n - fs.length) ((none, 0, 0) : Sl)).toArray) (some g) := by
    have := grownBy_putRow (w := w) (g := g) (n := q) (os := #[]) (en := encS) (fs ++ List.replicate (n - fs.length) ((none, 0, 0) : Sl)).toArray
    rwa [grow_empty] at this
  rw [grow_empty] at hblk
  refine ⟨_, rfl, ⟨fs, f1, ⟨by omega, some ⟨g, 0, none⟩, n, rfl, f3, by omega, .inr ⟨g, 0, rfl, hblk.lt, fun i t ht j u hu => ?_⟩⟩, fun i t l ht hl => f2 i t l ht hl _ hgr⟩, hgr⟩
  match j, hu with
  | 0, hu =>
    simp at hu
    subst hu
    have hil := (List.getElem?_eq_some_iff.1 ht).1
    rw [show 0 + i * 1 + 0 = i by omega, hblk.cell i]
    simp only [List.map_toArray, List.map_append, List.getElem?_toArray]
    rw [List.getElem?_append_left (by simpa using hil)]
    simp [ht]
  | j + 1, hu => simp at hu
end Go.Proofs.YtghacfhpafbdmaaGreat
