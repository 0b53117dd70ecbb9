/-
  A forest in plain words: none, a vertex more, one less; who is joined. No walk of code.
-/
import Derived.Test.YtlakcldgolpaiaaEW8
namespace Go.Proofs.Ytlakcldgolpaiaa
set_option linter.unusedVariables false

def putV (pv : Int → Option Nat) (v : Int) (x : Option Nat) : Int → Option Nat := fun i => if i = v then x else pv i

theorem fok_new {V : Type} : FOk (RM.new : RM V) (fun _ => none) (fun _ => none) [(false, 0)] [] [] [] :=
  ⟨⟨by simp [RM.new], fun a => by simp [RM.new]; omega, fun xs hx => by simp [RM.new] at hx⟩, rfl, by simp [RM.new, lone], fun xs hx => by simp at hx, by simp [ids], fun v a => by simp, fun id a b e => by simp at e, fun a ha => by simp at ha, fun id => by simp [ids]⟩

section

variable {V : Type} {M : RM V} {pv : Int → Option Nat} {pe : Int → Option (Nat × Nat)} {who : List Tok} {free : List Nat} {edges : List Edg} {W : List (List Nat)} {xs : List Nat} {a b : Nat}

theorem FOk.addv (h : FOk M pv pe who free edges W) {v : Int} (hv : pv v = none) {M1 : RM V} {who1 : List Tok} {free1 : List Nat} (ok1 : M1.Ok) (len1 : who1.length = M1.own.length + 1) (rows1 : M1.rows.Perm ([a] :: (W ++ lone free1)))
    (same : ∀ c ∈ W.flatten, tok who1 c = tok who c) (t : tok who1 a = vt v) : FOk M1 (putV pv v (some a)) pe who1 free1 edges ([a] :: W) := by
  have ap := perm_apart ok1 rows1 (a := a) (by simp)
  have na : a ∉ W.flatten := fun hm => by
    obtain ⟨zs, hz, hc⟩ := List.mem_flatten.1 hm
    exact ap zs (List.mem_append_left _ hz) hc
  have hm : ∀ c, c ∈ ([a] :: W).flatten ↔ c = a ∨ c ∈ W.flatten := fun c => by simp
  refine ⟨ok1, len1, rows1, ?_, h.nd, ?_, ?_, ?_, h.has⟩
  · intro zs hz
    rcases List.mem_cons.1 hz with rfl | hz
    · exact ⟨[], by simp only [List.map_cons, List.map_nil, t]; exact .vert v, fun e he => by cases he⟩
    · obtain ⟨es, h1, h2⟩ := h.tour zs hz
      exact ⟨es, by rw [tok_map fun c hc => same c (List.mem_flatten.2 ⟨zs, hz, hc⟩)]; exact h1, h2⟩
  · intro i c
    rw [hm]
    unfold putV
    by_cases e : i = v
    · subst e
      rw [if_pos rfl]
      constructor
      · intro e; injection e with e; subst e; exact ⟨.inl rfl, t⟩
      · rintro ⟨rfl | h1, h2⟩
        · rfl
        · rw [same c h1] at h2
          rw [(h.vert i c).2 ⟨h1, h2⟩] at hv
          cases hv
    · rw [if_neg e, h.vert i c]
      constructor
      · rintro ⟨h1, h2⟩; exact ⟨.inr h1, by rw [same c h1]; exact h2⟩
      · rintro ⟨rfl | h1, h2⟩
        · rw [t] at h2; exact absurd (vt_inj h2).symm e
        · exact ⟨h1, by rw [← same c h1]; exact h2⟩
  · intro i c d e
    obtain ⟨h1, h2, h3, h4, h5⟩ := h.edge i c d e
    exact ⟨h1, (hm c).2 (.inr h2), (hm d).2 (.inr h3), by rw [same c h2]; exact h4, by rw [same d h3]; exact h5⟩
  · intro c hc i hi
    rcases (hm c).1 hc with rfl | hc
    · rw [t] at hi; exact absurd hi (vt_ne_et _ _)
    · rw [same c hc] at hi
      exact h.only c hc i hi

theorem FOk.delv (h : FOk M pv pe who free edges ([a] :: W)) {v : Int} (t : tok who a = vt v) {who1 : List Tok} {free1 : List Nat} (len1 : who1.length = who.length) (same : ∀ c ∈ W.flatten, tok who1 c = tok who c) (hf : free1.Perm (a :: free)) : FOk M (putV pv v none) pe who1 free1 edges W := by
  have rows1 : M.rows.Perm ([a] :: (W ++ lone free)) := h.rows
  have ap := perm_apart h.ok rows1 (a := a) (by simp)
  have na : a ∉ W.flatten := fun hm => by
    obtain ⟨zs, hz, hc⟩ := List.mem_flatten.1 hm
    exact ap zs (List.mem_append_left _ hz) hc
  have hm : ∀ c, c ∈ ([a] :: W).flatten ↔ c = a ∨ c ∈ W.flatten := fun c => by simp
  refine ⟨h.ok, by rw [len1]; exact h.len, ?_, ?_, h.nd, ?_, ?_, ?_, h.has⟩
  · refine rows1.trans (List.Perm.trans ?_ ((hf.map fun a => [a]).symm.append_left W))
    exact List.perm_middle.symm
  · intro zs hz
    obtain ⟨es, h1, h2⟩ := h.tour zs (List.mem_cons_of_mem _ hz)
    exact ⟨es, by rw [tok_map fun c hc => same c (List.mem_flatten.2 ⟨zs, hz, hc⟩)]; exact h1, h2⟩
  · intro i c
    unfold putV
    by_cases e : i = v
    · subst e
      rw [if_pos rfl]
      constructor
      · intro e; cases e
      · rintro ⟨h1, h2⟩
        rw [same c h1] at h2
        have e1 := (h.vert i c).2 ⟨(hm c).2 (.inr h1), h2⟩
        have e2 := (h.vert i a).2 ⟨(hm a).2 (.inl rfl), t⟩
        rw [e1] at e2
        injection e2 with e2
        exact absurd (e2 ▸ h1) na
    · rw [if_neg e, h.vert i c]
      constructor
      · rintro ⟨h1, h2⟩
        rcases (hm c).1 h1 with rfl | h1
        · rw [t] at h2; exact absurd (vt_inj h2).symm e
        · exact ⟨h1, by rw [same c h1]; exact h2⟩
      · rintro ⟨h1, h2⟩
        exact ⟨(hm c).2 (.inr h1), by rw [← same c h1]; exact h2⟩
  · intro i c d e
    obtain ⟨h1, h2, h3, h4, h5⟩ := h.edge i c d e
    have g : ∀ x, x ∈ ([a] :: W).flatten → tok who x = et i → x ∈ W.flatten := fun x hx ht => by
      rcases (hm x).1 hx with rfl | hx
      · rw [t] at ht; exact absurd ht (vt_ne_et _ _)
      · exact hx
    exact ⟨h1, g c h2 h4, g d h3 h5, by rw [same c (g c h2 h4)]; exact h4, by rw [same d (g d h3 h5)]; exact h5⟩
  · intro c hc i hi
    rw [same c hc] at hi
    exact h.only c ((hm c).2 (.inr hc)) i hi

theorem FOk.walkOf (h : FOk M pv pe who free edges W) (ha : a ∈ W.flatten) : M.rowOf a ∈ W ∧ a ∈ M.rowOf a := by
  obtain ⟨zs, hz, hc⟩ := List.mem_flatten.1 ha
  rw [(h.row hz hc).1]
  exact ⟨hz, hc⟩

theorem ids_inj {edges : List Edg} (nd : (ids edges).Nodup) : ∀ {i p q p' q' : Int}, (i, p, q) ∈ edges → (i, p', q') ∈ edges → p = p' ∧ q = q' := by
  induction edges with
  | nil => intro i p q p' q' h; cases h
  | cons e es ih =>
    intro i p q p' q' h1 h2
    have nd' : (e.1 :: ids es).Nodup := nd
    obtain ⟨n1, n2⟩ := List.nodup_cons.1 nd'
    rcases List.mem_cons.1 h1 with h1 | h1 <;> rcases List.mem_cons.1 h2 with h2 | h2
    · rw [← h1] at h2; injection h2 with _ h2; injection h2 with h3 h4; exact ⟨h3.symm, h4.symm⟩
    · exact absurd (List.mem_map.2 ⟨_, h2, by rw [← h1]⟩) n1
    · exact absurd (List.mem_map.2 ⟨_, h1, by rw [← h2]⟩) n1
    · exact ih n2 h1 h2

/-- An edge's ends stand in one walk. -/
theorem FOk.ends (h : FOk M pv pe who free edges W) {id p q : Int} (he : (id, p, q) ∈ edges) : ∃ zs ∈ W, ∃ c d, c ∈ zs ∧ d ∈ zs ∧ pv p = some c ∧ pv q = some d := by
  have h1 := (h.has id).1 (List.mem_map.2 ⟨_, he, rfl⟩)
  obtain ⟨⟨b, c⟩, hb⟩ := Option.ne_none_iff_exists'.1 h1
  obtain ⟨-, h2, -, h3, -⟩ := h.edge id b c hb
  obtain ⟨zs, hz, hbz⟩ := List.mem_flatten.1 h2
  obtain ⟨es, k1, k2⟩ := h.tour zs hz
  have h4 := (tour_et k1).1 (List.mem_map.2 ⟨b, hbz, h3⟩)
  obtain ⟨⟨i, p', q'⟩, h5, h6⟩ := List.mem_map.1 h4
  have h6 : i = id := h6
  subst h6
  obtain ⟨rfl, rfl⟩ := ids_inj h.nd he (k2 _ h5)
  obtain ⟨e1, e2⟩ := tour_ends k1 _ _ _ h5
  obtain ⟨x, hx1, hx2⟩ := List.mem_map.1 e1
  obtain ⟨y, hy1, hy2⟩ := List.mem_map.1 e2
  exact ⟨zs, hz, x, y, hx1, hy1, (h.vert _ _).2 ⟨List.mem_flatten.2 ⟨zs, hz, hx1⟩, hx2⟩, (h.vert _ _).2 ⟨List.mem_flatten.2 ⟨zs, hz, hy1⟩, hy2⟩⟩

/-- Who is joined stands in one walk. -/
theorem FOk.joined (h : FOk M pv pe who free edges W) {u v : Int} (hu : pv u = some a) (hv : pv v = some b) : M.rowOf a = M.rowOf b ↔ Conn edges u v := by
  obtain ⟨au, tu⟩ := (h.vert u a).1 hu
  obtain ⟨bu, tv⟩ := (h.vert v b).1 hv
  obtain ⟨w1, w2⟩ := h.walkOf au
  obtain ⟨w3, w4⟩ := h.walkOf bu
  constructor
  · intro e
    obtain ⟨es, k1, k2⟩ := h.tour _ w1
    exact (tour_conn k1 u v (List.mem_map.2 ⟨a, w2, tu⟩) (List.mem_map.2 ⟨b, by rw [e]; exact w4, tv⟩)).mono k2
  · intro hc
    have := conn_stays (S := fun x => ∃ c, pv x = some c ∧ c ∈ M.rowOf a) (fun id p q he => by
      obtain ⟨zs, hz, c, d, hc, hd, pc, pd⟩ := h.ends he
      have key : ∀ x y, x ∈ zs → y ∈ zs → x ∈ M.rowOf a → y ∈ M.rowOf a := fun x y hx hy hxa => by
        rw [← (h.row w1 hxa).1, (h.row hz hx).1]; exact hy
      constructor
      · rintro ⟨c', e1, e2⟩
        rw [pc] at e1; injection e1 with e1; subst e1
        exact ⟨d, pd, key _ _ hc hd e2⟩
      · rintro ⟨c', e1, e2⟩
        rw [pd] at e1; injection e1 with e1; subst e1
        exact ⟨c, pc, key _ _ hd hc e2⟩) hc ⟨a, hu, w2⟩
    obtain ⟨c, e1, e2⟩ := this
    rw [hv] at e1; injection e1 with e1; subst e1
    exact ((h.row w1 e2).1).symm

end

end Go.Proofs.Ytlakcldgolpaiaa
