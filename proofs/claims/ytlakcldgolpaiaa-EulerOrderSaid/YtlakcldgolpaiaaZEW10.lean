/-
  A place is taken, a place is given back: rows, owners and what places bear. How many places there are. No walk of code.
-/
import Derived.Test.YtlakcldgolpaiaaZEW1
import Derived.Test.YtlakcldgolpaiaaEP5
import Derived.Test.YtlakcldgolpaiaaEP22
namespace Go.Proofs.Ytlakcldgolpaiaa
set_option linter.unusedVariables false

section

variable {V : Type} [Bear V]

def takeN (n : Nat) (free : List Nat) : Nat := if free = [] then n + 1 else free.getLastD 0

def takeM (M : RM V) (free : List Nat) (v : V) : RM V := if free = [] then M.make v else M.set (free.getLastD 0) v

def takeW (who : List Tok) (free : List Nat) (t : Tok) : List Tok := if free = [] then who ++ [t] else who.set (free.getLastD 0) t

structure TakeOut (M : RM V) (who : List Tok) (free : List Nat) (R : List (List Nat)) (t : Tok) (v : V) : Prop where
  ok : (takeM M free v).Ok
  len : (takeW who free t).length = (takeM M free v).own.length + 1
  rows : (takeM M free v).rows.Perm ([takeN M.own.length free] :: (R ++ lone free.dropLast))
  same : ∀ c ∈ R.flatten, tok (takeW who free t) c = tok who c
  tk : tok (takeW who free t) (takeN M.own.length free) = t
  vals : ∀ c ∈ R.flatten, (takeM M free v).val c = M.val c
  val : (takeM M free v).val (takeN M.own.length free) = v
  own : (takeM M free v).own.length = M.own.length ∨ free = [] ∧ (takeM M free v).own.length = M.own.length + 1
  fit : ∀ x ∈ (takeM M free v).own, x ∈ M.own ∨ x = v
  new : takeN M.own.length free ∉ R.flatten
  zero : tok (takeW who free t) 0 = tok who 0
  pos : 1 ≤ takeN M.own.length free

omit [Bear V] in
theorem tok_set_ne {who : List Tok} {a c : Nat} {t : Tok} (h : c ≠ a) : tok (who.set a t) c = tok who c := by
  unfold tok
  simp only [List.getD_eq_getElem?_getD, List.getElem?_set_ne (Ne.symm h)]

omit [Bear V] in
theorem tok_set_eq {who : List Tok} {a : Nat} {t : Tok} (h : a < who.length) : tok (who.set a t) a = t := by
  unfold tok
  simp [h]

theorem val_set_ne {M : RM V} {a c : Nat} {v : V} (ha : 1 ≤ a) (hc : 1 ≤ c) (h : c ≠ a) : (M.set a v).val c = M.val c := by
  unfold RM.val RM.set
  dsimp only
  rw [List.getElem?_set_ne (by omega)]

theorem val_set_eq {M : RM V} {a : Nat} {v : V} (ha : 1 ≤ a ∧ a ≤ M.own.length) : (M.set a v).val a = v := by
  unfold RM.val RM.set
  dsimp only
  rw [List.getElem?_set_self (by omega)]
  rfl

theorem val_make_old {M : RM V} {c : Nat} {v : V} (hc : 1 ≤ c ∧ c ≤ M.own.length) : (M.make v).val c = M.val c := by
  unfold RM.val RM.make
  dsimp only
  rw [List.getElem?_append_left (by omega)]

theorem val_make_new {M : RM V} {v : V} : (M.make v).val (M.own.length + 1) = v := by
  unfold RM.val RM.make
  dsimp only
  simp

omit [Bear V] in
theorem lone_last {free : List Nat} (h : free ≠ []) : (lone free).Perm ([free.getLastD 0] :: lone free.dropLast) := by
  have e : free = free.dropLast ++ [free.getLastD 0] := by
    have h1 := (List.dropLast_concat_getLast h).symm
    have h2 : free.getLastD 0 = free.getLast h := by rw [List.getLastD_eq_getLast?, List.getLast?_eq_some_getLast h]; rfl
    rw [h2]; exact h1
  have e2 : lone free = lone free.dropLast ++ [[free.getLastD 0]] := by
    conv => lhs; rw [e]
    unfold lone
    rw [List.map_append]
    rfl
  rw [e2]
  exact List.perm_append_comm

theorem takeP {M : RM V} {who : List Tok} {free : List Nat} {R : List (List Nat)} (h : M.Ok) (hl : who.length = M.own.length + 1) (hp : M.rows.Perm (R ++ lone free)) (t : Tok) (v : V) : TakeOut M who free R t v := by
  have kn : ∀ c ∈ R.flatten, 1 ≤ c ∧ c ≤ M.own.length := fun c hc => by
    obtain ⟨zs, hz, hcz⟩ := List.mem_flatten.1 hc
    exact row_known h (hp.mem_iff.2 (List.mem_append_left _ hz)) hcz
  by_cases hf : free = []
  · subst hf
    have e1 : takeM M [] v = M.make v := by unfold takeM; rw [if_pos rfl]
    have e2 : takeN M.own.length [] = M.own.length + 1 := by unfold takeN; rw [if_pos rfl]
    have e3 : takeW who [] t = who ++ [t] := by unfold takeW; rw [if_pos rfl]
    have hlen : (M.make v).own.length = M.own.length + 1 := by simp [RM.make]
    constructor
    · rw [e1]; exact ok_make h v
    · rw [e1, e3, hlen]; simp [hl]
    · rw [e1, e2]; exact (makeP M v).trans (List.Perm.cons _ hp)
    · intro c hc
      have := kn c hc
      rw [e3]
      unfold tok
      simp only [List.getD_eq_getElem?_getD]
      rw [List.getElem?_append_left (by omega)]
    · rw [e2, e3]
      unfold tok
      rw [← hl]
      simp
    · intro c hc; rw [e1]; exact val_make_old (kn c hc)
    · rw [e1, e2]; exact val_make_new
    · rw [e1]; exact .inr ⟨rfl, hlen⟩
    · intro x hx
      rw [e1] at hx
      simp only [RM.make, List.mem_append, List.mem_singleton] at hx
      exact hx
    · rw [e2]; intro hm; have := kn _ hm; omega
    · rw [e3]
      unfold tok
      simp only [List.getD_eq_getElem?_getD]
      rw [List.getElem?_append_left (by omega)]
    · rw [e2]; omega
  · obtain ⟨l, hl0⟩ : ∃ l, l = free.getLastD 0 := ⟨_, rfl⟩
    have e1 : takeM M free v = M.set l v := by unfold takeM; rw [if_neg hf, hl0]
    have e2 : takeN M.own.length free = l := by unfold takeN; rw [if_neg hf, hl0]
    have e3 : takeW who free t = who.set l t := by unfold takeW; rw [if_neg hf, hl0]
    have hp2 : M.rows.Perm ([l] :: (R ++ lone free.dropLast)) := by
      refine hp.trans (((lone_last hf).append_left R).trans ?_)
      rw [← hl0]
      exact List.perm_middle
    have kl := perm_known h hp2 (a := l) (by simp)
    have ap := perm_apart h hp2 (a := l) (by simp)
    have nl : l ∉ R.flatten := fun hm => by
      obtain ⟨zs, hz, hcz⟩ := List.mem_flatten.1 hm
      exact ap zs (List.mem_append_left _ hz) hcz
    have ne : ∀ c ∈ R.flatten, c ≠ l := fun c hc e => nl (e ▸ hc)
    constructor
    · rw [e1]; exact ok_set h l v
    · rw [e1, e3]; simp [RM.set, hl]
    · rw [e1, e2]; exact hp2
    · intro c hc; rw [e3]; exact tok_set_ne (ne c hc)
    · rw [e2, e3]; exact tok_set_eq (by omega)
    · intro c hc; rw [e1]; exact val_set_ne kl.1 (kn c hc).1 (ne c hc)
    · rw [e1, e2]; exact val_set_eq kl
    · rw [e1]; exact .inl (by simp [RM.set])
    · intro x hx
      rw [e1] at hx
      exact List.mem_or_eq_of_mem_set hx
    · rw [e2]; exact nl
    · rw [e3]; exact tok_set_ne (by omega)
    · rw [e2]; exact kl.1

omit [Bear V] in
/-- Rows and what places bear do not hang on one another. -/
theorem FOk.set {M : RM V} {pv : Int → Option Nat} {pe : Int → Option (Nat × Nat)} {who : List Tok} {free : List Nat} {edges : List Edg} {W : List (List Nat)} (h : FOk M pv pe who free edges W) (a : Nat) (v : V) : FOk (M.set a v) pv pe who free edges W :=
  ⟨ok_set h.ok a v, by rw [h.len]; simp [RM.set], h.rows, h.tour, h.nd, h.vert, h.edge, h.only, h.has⟩

end

/-! ### How many places there are -/

def isV (t : Tok) : Bool := !t.1

theorem isV_eq {t : Tok} (h : isV t = true) : t = vt t.2 := by
  obtain ⟨b, i⟩ := t
  cases b
  · rfl
  · cases h

theorem tour_size {w : List Tok} {es : List Edg} (h : Tour w es) : w.length + 2 = 3 * (w.filter isV).length := by
  induction h with
  | vert u => rfl
  | turn h ih =>
    rw [List.filter_append, List.length_append] at ih ⊢
    rw [List.length_append] at ih ⊢
    omega
  | perm hp _ ih => exact ih
  | @link A B es fs id u v p q h1 h2 hu hv hpq ih1 ih2 =>
    have e : (A ++ (et id :: (B ++ [et id]))).filter isV = A.filter isV ++ B.filter isV := by
      rw [List.filter_append]
      congr 1
      rw [List.filter_cons_of_neg (by simp [et, isV]), List.filter_append]
      simp [et, isV]
    rw [e, List.length_append]
    simp only [List.length_append, List.length_cons, List.length_nil] at ih1 ih2 ⊢
    omega

theorem walks_size {who : List Tok} : ∀ {W : List (List Nat)}, (∀ xs ∈ W, ∃ es, Tour (xs.map (tok who)) es) → W.flatten.length + 2 * W.length = 3 * (W.flatten.filter fun a => isV (tok who a)).length
  | [], _ => rfl
  | xs :: W, h => by
    have ih := walks_size (who := who) (W := W) (fun ys hy => h ys (List.mem_cons_of_mem _ hy))
    obtain ⟨es, ht⟩ := h xs (List.mem_cons_self ..)
    have h1 := tour_size ht
    rw [List.length_map, List.filter_map, List.length_map] at h1
    have h2 : (xs.filter (isV ∘ tok who)).length = (xs.filter fun a => isV (tok who a)).length := rfl
    rw [h2] at h1
    rw [List.flatten_cons, List.filter_append, List.length_append, List.length_append, List.length_cons]
    omega

section

variable {V : Type} {M : RM V} {pv : Int → Option Nat} {pe : Int → Option (Nat × Nat)} {who : List Tok} {free : List Nat} {edges : List Edg} {W : List (List Nat)}

/-- The vertices, place by place. -/
theorem verts_count (h : FOk M pv pe who free edges W) {vs : List Int} (nd : vs.Nodup) (hv : ∀ v, v ∈ vs ↔ pv v ≠ none) : (W.flatten.filter fun a => isV (tok who a)).length = vs.length := by
  have hnd : W.flatten.Nodup := by
    have := h.rowNd
    rw [List.flatten_append] at this
    exact (List.nodup_append.1 this).1
  have hp : ((W.flatten.filter fun a => isV (tok who a)).map fun a => (tok who a).2).Perm vs := by
    refine (List.perm_ext_iff_of_nodup ?_ nd).2 ?_
    · refine List.pairwise_map.2 ((hnd.filter _).imp_of_mem ?_)
      intro a b ha hb hne e
      have e' : (tok who a).2 = (tok who b).2 := e
      obtain ⟨a1, a2⟩ := List.mem_filter.1 ha
      obtain ⟨b1, b2⟩ := List.mem_filter.1 hb
      have ta : tok who a = vt (tok who a).2 := isV_eq a2
      have tb : tok who b = vt (tok who a).2 := by rw [e']; exact isV_eq b2
      have q1 := (h.vert _ a).2 ⟨a1, ta⟩
      have q2 := (h.vert _ b).2 ⟨b1, tb⟩
      rw [q1] at q2
      exact hne (Option.some.inj q2)
    · intro v
      rw [hv, List.mem_map]
      constructor
      · rintro ⟨a, ha, rfl⟩
        obtain ⟨a1, a2⟩ := List.mem_filter.1 ha
        have ta : tok who a = vt (tok who a).2 := isV_eq a2
        rw [(h.vert _ a).2 ⟨a1, ta⟩]
        simp
      · intro hne
        obtain ⟨a, ha⟩ := Option.ne_none_iff_exists'.1 hne
        obtain ⟨a1, a2⟩ := (h.vert v a).1 ha
        exact ⟨a, List.mem_filter.2 ⟨a1, by rw [a2]; rfl⟩, by rw [a2]; rfl⟩
  have := hp.length_eq
  rwa [List.length_map] at this

theorem places_count (h : FOk M pv pe who free edges W) {vs : List Int} (nd : vs.Nodup) (hv : ∀ v, v ∈ vs ↔ pv v ≠ none) : W.flatten.length + 2 * W.length = 3 * vs.length := by
  rw [walks_size (who := who) (fun xs hx => by obtain ⟨es, h1, _⟩ := h.tour xs hx; exact ⟨es, h1⟩), verts_count h nd hv]

theorem own_count {V : Type} {M : RM V} {R : List (List Nat)} (h : M.Ok) (hp : M.rows.Perm R) : M.own.length = R.flatten.length := by
  rw [← (perm_flatten hp).length_eq]
  have hp2 : M.rows.flatten.Perm (List.range' 1 M.own.length) := (List.perm_ext_iff_of_nodup h.nd List.nodup_range').2 (fun a => by rw [h.mem, List.mem_range'_1]; omega)
  rw [hp2.length_eq, List.length_range']

end

end Go.Proofs.Ytlakcldgolpaiaa

/-
  A whole forest in plain words, with its marks and with what its places bear; what each change makes of it. No walk of code.
-/
namespace Go.Proofs.Ytlakcldgolpaiaa
set_option linter.unusedVariables false

def b01 (b : Bool) : Int := if b then 1 else 0

theorem b01_range (b : Bool) : 0 ≤ b01 b ∧ b01 b ≤ 1 := by cases b <;> simp [b01]

def setB (f : Int → Bool) (i : Int) (b : Bool) : Int → Bool := fun k => if k = i then b else f k

/-- A forest in plain words. -/
structure FS where
  M : RM SV
  pv : Int → Option Nat
  pe : Int → Option (Nat × Nat)
  who : List Tok
  free : List Nat
  edges : List Edg
  vs : List Int
  mv : Int → Bool
  me : Int → Bool

structure FS.Good (F : FS) : Prop where
  ok : ∃ W, FOk F.M F.pv F.pe F.who F.free F.edges W
  nd : F.vs.Nodup
  vs : ∀ v, v ∈ F.vs ↔ F.pv v ≠ none
  vid : ∀ v ∈ F.vs, 1 ≤ v ∧ v ≤ 2147483647
  eid : ∀ i ∈ ids F.edges, 1 ≤ i ∧ i ≤ 2147483647
  few : F.vs.length ≤ 2048
  own : F.M.own.length ≤ 6144
  bv : ∀ v a, F.pv v = some a → F.M.val a = ⟨1, b01 (F.mv v), 0⟩
  be : ∀ i a b, F.pe i = some (a, b) → F.M.val a = ⟨0, 0, b01 (F.me i)⟩ ∧ F.M.val b = ⟨0, 0, 0⟩
  fit : ∀ v ∈ F.M.own, 0 ≤ v.n ∧ v.n ≤ 1 ∧ 0 ≤ v.m ∧ v.m ≤ 1 ∧ 0 ≤ v.e ∧ v.e ≤ 1
  mv : ∀ v, F.mv v = true → v ∈ F.vs
  me : ∀ i, F.me i = true → i ∈ ids F.edges
  zero : tok F.who 0 = (false, 0)

def FS.new : FS := ⟨RM.new, fun _ => none, fun _ => none, [(false, 0)], [], [], [], fun _ => false, fun _ => false⟩

theorem good_new : FS.new.Good :=
  ⟨⟨[], fok_new⟩, List.nodup_nil, fun v => by simp [FS.new], fun v hv => by simp [FS.new] at hv, fun v hv => by simp [FS.new, ids] at hv, by simp [FS.new], by simp [FS.new, RM.new], fun v a e => by simp [FS.new] at e, fun i a b e => by simp [FS.new] at e, fun v hv => by simp [FS.new, RM.new] at hv, fun v e => by simp [FS.new] at e, fun v e => by simp [FS.new] at e, rfl⟩

def FS.addv (F : FS) (v : Int) : FS := { F with M := takeM F.M F.free ⟨1, 0, 0⟩, pv := putV F.pv v (some (takeN F.M.own.length F.free)), who := takeW F.who F.free (vt v), free := F.free.dropLast, vs := v :: F.vs }

def FS.delv (F : FS) (v : Int) (a : Nat) : FS := { F with pv := putV F.pv v none, who := F.who.set a (false, 0), free := F.free ++ [a], vs := F.vs.erase v, mv := setB F.mv v false }

def FS.M1 (F : FS) : RM SV := takeM F.M F.free ⟨0, 0, 0⟩

def FS.p0 (F : FS) : Nat := takeN F.M.own.length F.free

def FS.M2 (F : FS) : RM SV := takeM F.M1 F.free.dropLast ⟨0, 0, 0⟩

def FS.p1 (F : FS) : Nat := takeN F.M1.own.length F.free.dropLast

def FS.w2 (F : FS) (id : Int) : List Tok := takeW (takeW F.who F.free (et id)) F.free.dropLast (et id)

def FS.link (F : FS) (id u v : Int) (a b : Nat) : FS := { F with M := linkM F.M2 a b F.p0 F.p1, pe := putE F.pe id (some (F.p0, F.p1)), who := F.w2 id, free := F.free.dropLast.dropLast, edges := (id, u, v) :: F.edges }

def FS.cut (F : FS) (id : Int) (p0 p1 : Nat) : FS := { F with M := cutM F.M p0 p1, pe := putE F.pe id none, who := (F.who.set p0 (false, 0)).set p1 (false, 0), free := F.free ++ [p0] ++ [p1], edges := F.edges.filter (fun e => !decide (e.1 = id)), me := setB F.me id false }

def FS.markV (F : FS) (v : Int) (a : Nat) (on : Bool) : FS := { F with M := F.M.set a ⟨1, b01 on, 0⟩, mv := setB F.mv v on }

def FS.markE (F : FS) (id : Int) (a : Nat) (on : Bool) : FS := { F with M := F.M.set a ⟨0, 0, b01 on⟩, me := setB F.me id on }

section

variable {V : Type} {M : RM V} {pv : Int → Option Nat} {pe : Int → Option (Nat × Nat)} {who : List Tok} {free : List Nat} {edges : List Edg} {W : List (List Nat)}

theorem FOk.placeV (h : FOk M pv pe who free edges W) {v : Int} {a : Nat} (e : pv v = some a) : a ∈ W.flatten ∧ tok who a = vt v ∧ 1 ≤ a ∧ a ≤ M.own.length := by
  obtain ⟨h1, h2⟩ := (h.vert v a).1 e
  obtain ⟨zs, hz, hc⟩ := List.mem_flatten.1 h1
  exact ⟨h1, h2, (h.row hz hc).2⟩

theorem FOk.known (h : FOk M pv pe who free edges W) {a : Nat} (h1 : a ∈ W.flatten) : 1 ≤ a ∧ a ≤ M.own.length := by
  obtain ⟨zs, hz, hc⟩ := List.mem_flatten.1 h1
  exact (h.row hz hc).2

/-- Two walks are taken out of all. -/
theorem FOk.two (h : FOk M pv pe who free edges W) {u v : Int} {a b : Nat} (ha : pv u = some a) (hb : pv v = some b) (hc : ¬ Conn edges u v) : ∃ xs ys W', W.Perm (xs :: ys :: W') ∧ a ∈ xs ∧ b ∈ ys := by
  obtain ⟨w1, w2⟩ := h.walkOf (h.placeV ha).1
  obtain ⟨w3, w4⟩ := h.walkOf (h.placeV hb).1
  have hne : M.rowOf b ≠ M.rowOf a := fun e => hc ((h.joined ha hb).1 e.symm)
  have p1 := List.perm_cons_erase w1
  have w5 : M.rowOf b ∈ W.erase (M.rowOf a) := (List.mem_erase_of_ne hne).2 w3
  have p2 := List.perm_cons_erase w5
  exact ⟨_, _, _, p1.trans (List.Perm.cons _ p2), w2, w4⟩

end

section

variable {F : FS}

theorem FS.Good.addv (h : F.Good) {v : Int} (hid : 1 ≤ v ∧ v ≤ 2147483647) (hv : v ∉ F.vs) (hn : F.vs.length < 2048) : (F.addv v).Good := by
  obtain ⟨W, hW⟩ := h.ok
  have hpv : F.pv v = none := by
    cases e : F.pv v with
    | none => rfl
    | some a => exact absurd ((h.vs v).2 (by rw [e]; simp)) hv
  have T := takeP (R := W) hW.ok hW.len hW.rows (vt v) (⟨1, 0, 0⟩ : SV)
  have hmv : F.mv v = false := by
    cases e : F.mv v with
    | false => rfl
    | true => exact absurd (h.mv v e) hv
  have hfl := places_count hW h.nd h.vs
  have hoc := own_count hW.ok hW.rows
  constructor
  · exact ⟨_, hW.addv hpv T.ok T.len T.rows T.same T.tk⟩
  · exact List.nodup_cons.2 ⟨hv, h.nd⟩
  · intro i
    show i ∈ v :: F.vs ↔ putV F.pv v _ i ≠ none
    unfold putV
    by_cases e : i = v
    · simp [e]
    · rw [if_neg e, ← h.vs i]; simp [e]
  · intro i hi
    rcases List.mem_cons.1 (show i ∈ v :: F.vs from hi) with rfl | hi
    · exact hid
    · exact h.vid i hi
  · exact h.eid
  · show (v :: F.vs).length ≤ 2048
    simp; omega
  · show (takeM F.M F.free _).own.length ≤ 6144
    rcases T.own with e | ⟨e0, e⟩
    · rw [e]; exact h.own
    · have q : (W ++ lone F.free).flatten.length = W.flatten.length := by rw [e0]; show (W ++ []).flatten.length = _; rw [List.append_nil]
      rw [e, hoc, q]
      omega
  · intro i c e'
    have e : putV F.pv v (some (takeN F.M.own.length F.free)) i = some c := e'
    clear e'
    show (takeM F.M F.free _).val c = ⟨1, b01 (F.mv i), 0⟩
    unfold putV at e
    by_cases ei : i = v
    · rw [if_pos ei] at e
      injection e with e
      rw [← e, T.val, ei, hmv]
      rfl
    · rw [if_neg ei] at e
      rw [T.vals c (hW.placeV e).1]
      exact h.bv i c e
  · intro i c d e
    obtain ⟨h1, h2, h3, -, -⟩ := hW.edge i c d e
    show (takeM F.M F.free _).val c = _ ∧ (takeM F.M F.free _).val d = _
    rw [T.vals c h2, T.vals d h3]
    exact h.be i c d e
  · intro x hx
    rcases T.fit x hx with hx | rfl
    · exact h.fit x hx
    · simp
  · intro i hi; exact List.mem_cons_of_mem _ (h.mv i hi)
  · exact h.me
  · show tok (takeW F.who F.free _) 0 = _
    rw [T.zero]; exact h.zero

theorem FS.Good.delv (h : F.Good) {v : Int} {a : Nat} (hv : F.pv v = some a) (hr : F.M.rowOf a = [a]) : (F.delv v a).Good := by
  obtain ⟨W, hW⟩ := h.ok
  obtain ⟨k1, k2, k3⟩ := hW.placeV hv
  obtain ⟨w1, w2⟩ := hW.walkOf k1
  rw [hr] at w1
  have hp := List.perm_cons_erase w1
  have hW2 := hW.perm hp
  have ap := perm_apart hW2.ok hW2.rows (a := a) (by simp)
  have na : ∀ c ∈ (W.erase [a]).flatten, c ≠ a := by
    rintro c hc rfl
    obtain ⟨zs, hz, hcz⟩ := List.mem_flatten.1 hc
    exact ap zs (List.mem_append_left _ hz) hcz
  have hin : v ∈ F.vs := (h.vs v).2 (by rw [hv]; simp)
  have hmem : ∀ i, i ∈ F.vs.erase v ↔ i ≠ v ∧ i ∈ F.vs := fun i => h.nd.mem_erase_iff
  constructor
  · exact ⟨W.erase [a], hW2.delv (who1 := F.who.set a (false, 0)) (free1 := F.free ++ [a]) k2 (by simp) (fun c hc => tok_set_ne (na c hc)) List.perm_append_comm⟩
  · exact h.nd.erase _
  · intro i
    show i ∈ F.vs.erase v ↔ putV F.pv v none i ≠ none
    rw [hmem]
    unfold putV
    by_cases e : i = v
    · simp [e]
    · rw [if_neg e, ← h.vs i]; simp [e]
  · intro i hi; exact h.vid i ((hmem i).1 hi).2
  · exact h.eid
  · show (F.vs.erase v).length ≤ 2048
    have := h.few
    rw [List.length_erase_of_mem hin]; omega
  · exact h.own
  · intro i c e'
    have e : putV F.pv v none i = some c := e'
    clear e'
    show F.M.val c = ⟨1, b01 (setB F.mv v false i), 0⟩
    unfold putV at e
    split at e
    · cases e
    · rename_i hi
      unfold setB
      rw [if_neg hi]
      exact h.bv i c e
  · exact h.be
  · exact h.fit
  · intro i hi
    have hi : setB F.mv v false i = true := hi
    unfold setB at hi
    split at hi
    · cases hi
    · rename_i hne
      exact (hmem i).2 ⟨hne, h.mv i hi⟩
  · exact h.me
  · show tok (F.who.set a _) 0 = _
    rw [tok_set_ne (by omega)]; exact h.zero

/-- What Link asks of the rows on its way. -/
theorem FS.Good.linkOut (h : F.Good) {id u v : Int} {a b : Nat} (hid : 1 ≤ id ∧ id ≤ 2147483647) (he : id ∉ ids F.edges) (hu : F.pv u = some a) (hv : F.pv v = some b) (hc : ¬ Conn F.edges u v) :
    (F.link id u v a b).Good ∧ ∃ xs ys R P Q Z, LinkOut F.M2 xs ys R a b F.p0 F.p1 P Q Z := by
  obtain ⟨W0, hW0⟩ := h.ok
  obtain ⟨xs, ys, W, hp, ha, hb⟩ := hW0.two hu hv hc
  have hW := hW0.perm hp
  clear hW0 hp
  have hpe : F.pe id = none := by
    cases e : F.pe id with
    | none => rfl
    | some a => exact absurd ((hW.has id).2 (by rw [e]; simp)) he
  have T1 := takeP (R := xs :: ys :: W) hW.ok hW.len hW.rows (et id) (⟨0, 0, 0⟩ : SV)
  have T2 := takeP (R := [F.p0] :: (xs :: ys :: W)) T1.ok T1.len T1.rows (et id) (⟨0, 0, 0⟩ : SV)
  have r2 : F.M2.rows.Perm (xs :: ys :: [F.p0] :: [F.p1] :: (W ++ lone F.free.dropLast.dropLast)) := by
    have q : F.M2.rows.Perm ([F.p1] :: [F.p0] :: xs :: ys :: (W ++ lone F.free.dropLast.dropLast)) := T2.rows
    refine q.trans ?_
    have s1 : ([F.p1] :: [F.p0] :: xs :: ys :: (W ++ lone F.free.dropLast.dropLast)).Perm ([F.p0] :: [F.p1] :: xs :: ys :: (W ++ lone F.free.dropLast.dropLast)) := List.Perm.swap _ _ _
    refine s1.trans ?_
    exact (List.perm_append_comm (l₁ := [[F.p0], [F.p1]]) (l₂ := [xs, ys])).append_right (W ++ lone F.free.dropLast.dropLast)
  have in0 : F.p0 ∈ ([F.p0] :: (xs :: ys :: W)).flatten := by simp
  have inR : ∀ c ∈ (xs :: ys :: W).flatten, c ∈ ([F.p0] :: (xs :: ys :: W)).flatten := fun c hc => by
    rw [List.flatten_cons]; exact List.mem_append_right _ hc
  have same : ∀ c ∈ (xs :: ys :: W).flatten, tok (F.w2 id) c = tok F.who c := fun c hc => (T2.same c (inR c hc)).trans (T1.same c hc)
  have tu := (hW.placeV hu).2.1
  have tv := (hW.placeV hv).2.1
  have t0 : tok (F.w2 id) F.p0 = et id := (T2.same _ in0).trans T1.tk
  have t1 : tok (F.w2 id) F.p1 = et id := T2.tk
  obtain ⟨P, Q, Z, L, hF⟩ := hW.link ha hb tu tv hpe (id := id) (u := u) (v := v) (p0 := F.p0) (p1 := F.p1) (M1 := F.M2) T2.ok T2.len r2 same t0 t1
  have vals : ∀ c ∈ (xs :: ys :: W).flatten, F.M2.val c = F.M.val c := fun c hc => (T2.vals c (inR c hc)).trans (T1.vals c hc)
  have val0 : F.M2.val F.p0 = ⟨0, 0, 0⟩ := (T2.vals _ in0).trans T1.val
  have val1 : F.M2.val F.p1 = ⟨0, 0, 0⟩ := T2.val
  have hval : ∀ c, (linkM F.M2 a b F.p0 F.p1).val c = F.M2.val c := fun c => by unfold RM.val; rw [link_own]
  have hfl := places_count hW h.nd h.vs
  have hoc := own_count hW.ok hW.rows
  have hoc1 := own_count T1.ok T1.rows
  have hme : F.me id = false := by
    cases e : F.me id with
    | false => rfl
    | true => exact absurd (h.me id e) he
  refine ⟨?_, xs, ys, _, P, Q, Z, L⟩
  constructor
  · exact ⟨_, hF⟩
  · exact h.nd
  · exact h.vs
  · exact h.vid
  · intro i hi
    rcases List.mem_cons.1 (show i ∈ id :: ids F.edges from hi) with rfl | hi
    · exact hid
    · exact h.eid i hi
  · exact h.few
  · show (linkM F.M2 a b F.p0 F.p1).own.length ≤ 6144
    rw [link_own]
    have hfew := h.few
    have hown := h.own
    simp only [List.length_cons] at hfl
    rw [List.flatten_append, List.length_append] at hoc
    have e1 : (([F.p0] :: (xs :: ys :: W ++ lone F.free.dropLast)).flatten).length = 1 + (xs :: ys :: W).flatten.length + (lone F.free.dropLast).flatten.length := by
      rw [List.flatten_cons, List.flatten_append, List.length_append, List.length_append]
      simp
      omega
    have hM1 : F.M1.own.length = 1 + (xs :: ys :: W).flatten.length + (lone F.free.dropLast).flatten.length := hoc1.trans e1
    rcases T2.own with e | ⟨e0, e⟩
    · have e : F.M2.own.length = F.M1.own.length := e
      rw [e]
      rcases T1.own with e | ⟨e0, e⟩
      · have e : F.M1.own.length = F.M.own.length := e
        omega
      · have e : F.M1.own.length = F.M.own.length + 1 := e
        rw [e0] at hoc
        simp [lone] at hoc
        simp at hfl
        omega
    · have e : F.M2.own.length = F.M1.own.length + 1 := e
      rw [e0] at hM1
      simp [lone] at hM1
      simp at hfl
      omega
  · intro i c e
    show (linkM F.M2 a b F.p0 F.p1).val c = _
    rw [hval, vals c (hW.placeV e).1]
    exact h.bv i c e
  · intro i c d e'
    have e : putE F.pe id (some (F.p0, F.p1)) i = some (c, d) := e'
    clear e'
    show (linkM F.M2 a b F.p0 F.p1).val c = ⟨0, 0, b01 (F.me i)⟩ ∧ (linkM F.M2 a b F.p0 F.p1).val d = _
    rw [hval, hval]
    unfold putE at e
    by_cases ei : i = id
    · rw [if_pos ei] at e
      injection e with e
      injection e with e1 e2
      rw [← e1, ← e2, val0, val1, ei, hme]
      exact ⟨rfl, rfl⟩
    · rw [if_neg ei] at e
      obtain ⟨h1, h2, h3, -, -⟩ := hW.edge i c d e
      rw [vals c h2, vals d h3]
      exact h.be i c d e
  · intro x hx
    have hx : x ∈ (linkM F.M2 a b F.p0 F.p1).own := hx
    rw [link_own] at hx
    rcases T2.fit x hx with hx | rfl
    · rcases T1.fit x hx with hx | rfl
      · exact h.fit x hx
      · simp
    · simp
  · exact h.mv
  · intro i hi; exact List.mem_cons_of_mem _ (h.me i hi)
  · show tok (F.w2 id) 0 = _
    exact T2.zero.trans (T1.zero.trans h.zero)

theorem FS.Good.cutOut (h : F.Good) {id : Int} {p0 p1 : Nat} (he : F.pe id = some (p0, p1)) :
    (F.cut id p0 p1).Good ∧ (1 ≤ p0 ∧ p0 ≤ F.M.own.length) ∧ (1 ≤ p1 ∧ p1 ≤ F.M.own.length) ∧ ∃ xs R X Y, CutOutM F.M xs R p0 p1 X Y := by
  obtain ⟨W0, hW0⟩ := h.ok
  obtain ⟨e1, e2, e3, e4, e5⟩ := hW0.edge id p0 p1 he
  obtain ⟨w1, w2⟩ := hW0.walkOf e2
  have hp := List.perm_cons_erase w1
  have hW := hW0.perm hp
  have k0 := hW0.known e2
  have k1 := hW0.known e3
  obtain ⟨X, Y, C, hm, hF⟩ := hW.cut he w2
  have a0 := up_apart C.ok C.rows
  have a1 := up_apart C.ok (C.rows.trans (List.Perm.cons _ (List.Perm.cons _ (List.Perm.swap _ _ _))))
  have apart : ∀ c ∈ (X :: Y :: W0.erase (F.M.rowOf p0)).flatten, c ≠ p0 ∧ c ≠ p1 := by
    intro c hc
    obtain ⟨zs, hz, hcz⟩ := List.mem_flatten.1 hc
    have hzs2 : zs = X ∨ zs = Y ∨ zs ∈ W0.erase (F.M.rowOf p0) ++ lone F.free := by
      rcases List.mem_cons.1 hz with h | h
      · exact .inl h
      · rcases List.mem_cons.1 h with h | h
        · exact .inr (.inl h)
        · exact .inr (.inr (List.mem_append_left _ h))
    constructor
    · rintro rfl
      rcases hzs2 with rfl | rfl | hz2
      · exact a0.1 hcz
      · exact a0.2.1 hcz
      · exact a0.2.2.2 zs hz2 hcz
    · rintro rfl
      rcases hzs2 with rfl | rfl | hz2
      · exact a1.1 hcz
      · exact a1.2.1 hcz
      · exact a1.2.2.2 zs hz2 hcz
  have hk := hF ((F.who.set p0 (false, 0)).set p1 (false, 0)) (F.free ++ [p0] ++ [p1]) (by simp) (fun c hc => by
    rw [tok_set_ne (apart c hc).2, tok_set_ne (apart c hc).1]) (by
    rw [List.append_assoc]
    exact List.perm_append_comm)
  have hval : ∀ c, (cutM F.M p0 p1).val c = F.M.val c := fun c => by unfold RM.val; rw [cut_own2]
  have hids : ∀ i, i ∈ ids (F.edges.filter fun e => !decide (e.1 = id)) ↔ i ≠ id ∧ i ∈ ids F.edges := by
    intro i
    unfold ids
    simp only [List.mem_map, List.mem_filter]
    constructor
    · rintro ⟨e, ⟨h1, h2⟩, rfl⟩
      exact ⟨by simpa using h2, e, h1, rfl⟩
    · rintro ⟨h1, e, h2, rfl⟩
      exact ⟨e, ⟨h2, by simpa using h1⟩, rfl⟩
  refine ⟨?_, k0, k1, _, _, X, Y, C⟩
  constructor
  · exact ⟨_, hk⟩
  · exact h.nd
  · exact h.vs
  · exact h.vid
  · intro i hi; exact h.eid i ((hids i).1 hi).2
  · exact h.few
  · show (cutM F.M p0 p1).own.length ≤ 6144
    rw [cut_own2]; exact h.own
  · intro i c e
    show (cutM F.M p0 p1).val c = _
    rw [hval]; exact h.bv i c e
  · intro i c d e'
    have e : putE F.pe id none i = some (c, d) := e'
    clear e'
    show (cutM F.M p0 p1).val c = ⟨0, 0, b01 (setB F.me id false i)⟩ ∧ (cutM F.M p0 p1).val d = _
    rw [hval, hval]
    unfold putE at e
    split at e
    · cases e
    · rename_i hi
      unfold setB
      rw [if_neg hi]
      exact h.be i c d e
  · intro x hx
    have hx : x ∈ (cutM F.M p0 p1).own := hx
    rw [cut_own2] at hx
    exact h.fit x hx
  · exact h.mv
  · intro i hi
    have hi : setB F.me id false i = true := hi
    unfold setB at hi
    split at hi
    · cases hi
    · rename_i hne
      exact (hids i).2 ⟨hne, h.me i hi⟩
  · show tok ((F.who.set p0 _).set p1 _) 0 = _
    rw [tok_set_ne (by omega), tok_set_ne (by omega)]; exact h.zero

theorem fit_set {own : List SV} {i : Nat} {v : SV} (h : ∀ v ∈ own, 0 ≤ v.n ∧ v.n ≤ 1 ∧ 0 ≤ v.m ∧ v.m ≤ 1 ∧ 0 ≤ v.e ∧ v.e ≤ 1) (hv : 0 ≤ v.n ∧ v.n ≤ 1 ∧ 0 ≤ v.m ∧ v.m ≤ 1 ∧ 0 ≤ v.e ∧ v.e ≤ 1) : ∀ x ∈ own.set i v, 0 ≤ x.n ∧ x.n ≤ 1 ∧ 0 ≤ x.m ∧ x.m ≤ 1 ∧ 0 ≤ x.e ∧ x.e ≤ 1 := by
  intro x hx
  rcases List.mem_or_eq_of_mem_set hx with hx | rfl
  · exact h x hx
  · exact hv

theorem FS.Good.markV (h : F.Good) {v : Int} {a : Nat} (hv : F.pv v = some a) (on : Bool) : (F.markV v a on).Good := by
  obtain ⟨W, hW⟩ := h.ok
  obtain ⟨k1, k2, k3⟩ := hW.placeV hv
  have hin : v ∈ F.vs := (h.vs v).2 (by rw [hv]; simp)
  constructor
  · exact ⟨W, hW.set a _⟩
  · exact h.nd
  · exact h.vs
  · exact h.vid
  · exact h.eid
  · exact h.few
  · show (F.M.set a _).own.length ≤ 6144
    simpa [RM.set] using h.own
  · intro i c e'
    have e : F.pv i = some c := e'
    clear e'
    show (F.M.set a _).val c = ⟨1, b01 (setB F.mv v on i), 0⟩
    unfold setB
    by_cases ei : i = v
    · subst ei
      rw [hv] at e
      injection e with e
      subst e
      rw [if_pos rfl, val_set_eq k3]
    · have hne : c ≠ a := by
        rintro rfl
        have := (hW.placeV e).2.1
        rw [k2] at this
        exact ei (vt_inj this).symm
      rw [if_neg ei, val_set_ne k3.1 (hW.placeV e).2.2.1 hne]
      exact h.bv i c e
  · intro i c d e'
    have e : F.pe i = some (c, d) := e'
    clear e'
    obtain ⟨h1, h2, h3, h4, h5⟩ := hW.edge i c d e
    have n1 : c ≠ a := by rintro rfl; rw [k2] at h4; exact vt_ne_et _ _ h4
    have n2 : d ≠ a := by rintro rfl; rw [k2] at h5; exact vt_ne_et _ _ h5
    show (F.M.set a _).val c = _ ∧ (F.M.set a _).val d = _
    rw [val_set_ne k3.1 (hW.known h2).1 n1, val_set_ne k3.1 (hW.known h3).1 n2]
    exact h.be i c d e
  · have := b01_range on
    exact fit_set h.fit ⟨by simp, by simp, this.1, this.2, by simp, by simp⟩
  · intro i hi
    have hi : setB F.mv v on i = true := hi
    unfold setB at hi
    split at hi
    · rename_i e; subst e; exact hin
    · exact h.mv i hi
  · exact h.me
  · exact h.zero

theorem FS.Good.markE (h : F.Good) {id : Int} {a b : Nat} (he : F.pe id = some (a, b)) (on : Bool) : (F.markE id a on).Good := by
  obtain ⟨W, hW⟩ := h.ok
  obtain ⟨g1, g2, g3, g4, g5⟩ := hW.edge id a b he
  have k3 := hW.known g2
  have hin : id ∈ ids F.edges := (hW.has id).2 (by rw [he]; simp)
  constructor
  · exact ⟨W, hW.set a _⟩
  · exact h.nd
  · exact h.vs
  · exact h.vid
  · exact h.eid
  · exact h.few
  · show (F.M.set a _).own.length ≤ 6144
    simpa [RM.set] using h.own
  · intro i c e'
    have e : F.pv i = some c := e'
    clear e'
    obtain ⟨q1, q2, q3⟩ := hW.placeV e
    have hne : c ≠ a := by rintro rfl; rw [q2] at g4; exact vt_ne_et _ _ g4
    show (F.M.set a _).val c = _
    rw [val_set_ne k3.1 q3.1 hne]
    exact h.bv i c e
  · intro i c d e'
    have e : F.pe i = some (c, d) := e'
    clear e'
    obtain ⟨h1, h2, h3, h4, h5⟩ := hW.edge i c d e
    show (F.M.set a _).val c = ⟨0, 0, b01 (setB F.me id on i)⟩ ∧ (F.M.set a _).val d = _
    unfold setB
    by_cases ei : i = id
    · subst ei
      rw [he] at e
      injection e with e
      injection e with e1 e2
      subst e1 e2
      rw [if_pos rfl, val_set_eq k3, val_set_ne k3.1 (hW.known h3).1 (Ne.symm h1)]
      exact ⟨rfl, (h.be _ _ _ he).2⟩
    · have n1 : c ≠ a := by rintro rfl; rw [g4] at h4; injection h4 with _ h4; exact ei h4.symm
      have n2 : d ≠ a := by rintro rfl; rw [g4] at h5; injection h5 with _ h5; exact ei h5.symm
      rw [if_neg ei, val_set_ne k3.1 (hW.known h2).1 n1, val_set_ne k3.1 (hW.known h3).1 n2]
      exact h.be i c d e
  · have := b01_range on
    exact fit_set h.fit ⟨by simp, by simp, by simp, by simp, this.1, this.2⟩
  · exact h.mv
  · intro i hi
    have hi : setB F.me id on i = true := hi
    unfold setB at hi
    split at hi
    · rename_i e; subst e; exact hin
    · exact h.me i hi
  · exact h.zero

end

end Go.Proofs.Ytlakcldgolpaiaa

/-
  What is told of a forest in plain words: trees' lists, sizes, marks. No walk of code.
-/
namespace Go.Proofs.Ytlakcldgolpaiaa
set_option linter.unusedVariables false

/-- The rising row of what has P. -/
def Rise (xs : List Int) (P : Int → Prop) : Prop := xs.Pairwise (· < ·) ∧ ∀ i, i ∈ xs ↔ P i

theorem rise_unique {P : Int → Prop} : ∀ {xs ys : List Int}, Rise xs P → Rise ys P → xs = ys := by
  have key : ∀ (xs ys : List Int), xs.Pairwise (· < ·) → ys.Pairwise (· < ·) → (∀ i, i ∈ xs ↔ i ∈ ys) → xs = ys := by
    intro xs
    induction xs with
    | nil =>
      intro ys _ _ h
      cases ys with
      | nil => rfl
      | cons y ys => exact absurd ((h y).2 (by simp)) (by simp)
    | cons x xs ih =>
      intro ys hx hy h
      cases ys with
      | nil => exact absurd ((h x).1 (by simp)) (by simp)
      | cons y ys =>
        have hx' := List.pairwise_cons.1 hx
        have hy' := List.pairwise_cons.1 hy
        have e : x = y := by
          rcases List.mem_cons.1 ((h x).1 (by simp)) with e | e
          · exact e
          · rcases List.mem_cons.1 ((h y).2 (by simp)) with e2 | e2
            · exact e2.symm
            · have := hx'.1 y e2; have := hy'.1 x e; omega
        subst e
        rw [ih ys hx'.2 hy'.2 fun i => ?_]
        have hi := h i
        simp only [List.mem_cons] at hi
        constructor
        · intro hm
          rcases hi.1 (.inr hm) with e | e
          · subst e; have := hx'.1 i hm; omega
          · exact e
        · intro hm
          rcases hi.2 (.inr hm) with e | e
          · subst e; have := hy'.1 i hm; omega
          · exact e
  intro xs ys h1 h2
  exact key xs ys h1.1 h2.1 fun i => by rw [h1.2, h2.2]

theorem Rise.nd {xs : List Int} {P : Int → Prop} (h : Rise xs P) : xs.Nodup := h.1.imp fun h => by omega

theorem Rise.congr {xs : List Int} {P Q : Int → Prop} (h : Rise xs P) (e : ∀ i, P i ↔ Q i) : Rise xs Q := ⟨h.1, fun i => by rw [h.2, e]⟩

def FS.inV (F : FS) (u i : Int) : Prop := i ∈ F.vs ∧ Conn F.edges u i

def FS.inE (F : FS) (u i : Int) : Prop := ∃ p q, (i, p, q) ∈ F.edges ∧ Conn F.edges u p

def rowIds (who : List Tok) (xs : List Nat) (b : Bool) : List Int := ((xs.map (tok who)).filter fun t => t.1 == b).map fun t => t.2

theorem mem_rowIds {who : List Tok} {xs : List Nat} {b : Bool} {i : Int} : i ∈ rowIds who xs b ↔ ∃ c ∈ xs, tok who c = (b, i) := by
  unfold rowIds
  simp only [List.mem_map, List.mem_filter]
  constructor
  · rintro ⟨t, ⟨⟨c, hc, rfl⟩, h2⟩, rfl⟩
    exact ⟨c, hc, by rw [← (by simpa using h2 : (tok who c).1 = b)]⟩
  · rintro ⟨c, hc, e⟩
    exact ⟨(b, i), ⟨⟨c, hc, e⟩, by simp⟩, rfl⟩

section

variable {V : Type} {M : RM V} {pv : Int → Option Nat} {pe : Int → Option (Nat × Nat)} {who : List Tok} {free : List Nat} {edges : List Edg} {W : List (List Nat)}

theorem FOk.ends2 (h : FOk M pv pe who free edges W) {id p q : Int} (he : (id, p, q) ∈ edges) : ∃ zs ∈ W, ∃ b c x y, pe id = some (b, c) ∧ b ∈ zs ∧ x ∈ zs ∧ y ∈ zs ∧ pv p = some x ∧ pv q = some y := by
  have h1 := (h.has id).1 (List.mem_map.2 ⟨_, he, rfl⟩)
  obtain ⟨⟨b, c⟩, hb⟩ := Option.ne_none_iff_exists'.1 h1
  obtain ⟨-, h2, -, h3, -⟩ := h.edge id b c hb
  obtain ⟨zs, hz, hbz⟩ := List.mem_flatten.1 h2
  obtain ⟨es, k1, k2⟩ := h.tour zs hz
  have h4 := (tour_et k1).1 (List.mem_map.2 ⟨b, hbz, h3⟩)
  obtain ⟨⟨i, p', q'⟩, h5, h6⟩ := List.mem_map.1 h4
  have h6 : i = id := h6
  subst h6
  obtain ⟨rfl, rfl⟩ := ids_inj h.nd he (k2 _ h5)
  obtain ⟨e1, e2⟩ := tour_ends k1 _ _ _ h5
  obtain ⟨x, hx1, hx2⟩ := List.mem_map.1 e1
  obtain ⟨y, hy1, hy2⟩ := List.mem_map.1 e2
  exact ⟨zs, hz, b, c, x, y, hb, hbz, hx1, hy1, (h.vert _ _).2 ⟨List.mem_flatten.2 ⟨zs, hz, hx1⟩, hx2⟩, (h.vert _ _).2 ⟨List.mem_flatten.2 ⟨zs, hz, hy1⟩, hy2⟩⟩

/-- The edges of a walk stand once each. -/
theorem FOk.edgesNd (h : FOk M pv pe who free edges W) {xs : List Nat} (hx : xs ∈ W) {es : List Edg} (ht : Tour (xs.map (tok who)) es) : (ids es).Nodup := by
  have hnd : xs.Nodup := row_nodup h.ok (h.rows.mem_iff.2 (List.mem_append_left _ hx))
  refine List.nodup_iff_count.2 fun i => ?_
  by_cases hi : i ∈ ids es
  · obtain ⟨d, hd, e⟩ := List.mem_map.1 ((tour_et ht).2 hi)
    obtain ⟨b, c, h1, _⟩ := h.only d (List.mem_flatten.2 ⟨xs, hx, hd⟩) i e
    have hcnt : (xs.map (tok who)).count (et i) = (xs.filter fun d => tok who d == et i).length := by
      rw [List.count_eq_countP, List.countP_map, List.countP_eq_length_filter]; rfl
    have hsub : (xs.filter fun d => tok who d == et i) ⊆ [b, c] := by
      intro d hd
      obtain ⟨h1', h2⟩ := List.mem_filter.1 hd
      obtain ⟨b', c', h3, h4⟩ := h.only d (List.mem_flatten.2 ⟨xs, hx, h1'⟩) i (by simpa using h2)
      rw [h1] at h3
      injection h3 with h3
      injection h3 with h5 h6
      subst h5 h6
      simpa using h4
    have hndf : (xs.filter fun d => tok who d == et i).Nodup := hnd.filter _
    have h5 := hndf.length_le_of_subset hsub
    have h6 := tour_count ht i
    simp at h5
    omega
  · rw [List.count_eq_zero.2 hi]; omega

end

section

variable {F : FS}

/-- What a place of a walk bears. -/
theorem FS.Good.valOf (h : F.Good) {W : List (List Nat)} (hW : FOk F.M F.pv F.pe F.who F.free F.edges W) {c : Nat} (hc : c ∈ W.flatten) :
    (∃ v, tok F.who c = vt v ∧ F.pv v = some c ∧ F.M.val c = ⟨1, b01 (F.mv v), 0⟩) ∨ ∃ i p q, tok F.who c = et i ∧ F.pe i = some (p, q) ∧ (c = p ∧ F.M.val c = ⟨0, 0, b01 (F.me i)⟩ ∨ c = q ∧ F.M.val c = ⟨0, 0, 0⟩) := by
  obtain ⟨⟨b, i⟩, ht⟩ : ∃ t, t = tok F.who c := ⟨_, rfl⟩
  cases b with
  | false =>
    have e := (hW.vert i c).2 ⟨hc, ht.symm⟩
    exact .inl ⟨i, ht.symm, e, h.bv i c e⟩
  | true =>
    obtain ⟨p, q, e, h1⟩ := hW.only c hc i ht.symm
    have hb := h.be i p q e
    refine .inr ⟨i, p, q, ht.symm, e, ?_⟩
    rcases h1 with rfl | rfl
    · exact .inl ⟨rfl, hb.1⟩
    · exact .inr ⟨rfl, hb.2⟩

theorem FS.Good.mem_rowV (h : F.Good) {u : Int} {a : Nat} (hu : F.pv u = some a) (i : Int) : i ∈ rowIds F.who (F.M.rowOf a) false ↔ F.inV u i := by
  obtain ⟨W, hW⟩ := h.ok
  obtain ⟨w1, w2⟩ := hW.walkOf (hW.placeV hu).1
  rw [mem_rowIds]
  unfold FS.inV
  constructor
  · rintro ⟨c, hc, e⟩
    have e2 := (hW.vert i c).2 ⟨List.mem_flatten.2 ⟨_, w1, hc⟩, e⟩
    refine ⟨(h.vs i).2 (by rw [e2]; simp), (hW.joined hu e2).1 ?_⟩
    exact ((hW.row w1 hc).1).symm
  · rintro ⟨h1, h2⟩
    obtain ⟨c, hc⟩ := Option.ne_none_iff_exists'.1 ((h.vs i).1 h1)
    refine ⟨c, ?_, (hW.placeV hc).2.1⟩
    rw [(hW.joined hu hc).2 h2]
    exact (hW.walkOf (hW.placeV hc).1).2

theorem FS.Good.mem_rowE (h : F.Good) {u : Int} {a : Nat} (hu : F.pv u = some a) (i : Int) : i ∈ rowIds F.who (F.M.rowOf a) true ↔ F.inE u i := by
  obtain ⟨W, hW⟩ := h.ok
  obtain ⟨w1, w2⟩ := hW.walkOf (hW.placeV hu).1
  rw [mem_rowIds]
  unfold FS.inE
  constructor
  · rintro ⟨c, hc, e⟩
    obtain ⟨es, k1, k2⟩ := hW.tour _ w1
    have h4 := (tour_et k1).1 (List.mem_map.2 ⟨c, hc, e⟩)
    obtain ⟨⟨j, p, q⟩, h5, h6⟩ := List.mem_map.1 h4
    have h6 : j = i := h6
    subst h6
    obtain ⟨e1, e2⟩ := tour_ends k1 _ _ _ h5
    obtain ⟨x, hx1, hx2⟩ := List.mem_map.1 e1
    have e3 := (hW.vert p x).2 ⟨List.mem_flatten.2 ⟨_, w1, hx1⟩, hx2⟩
    exact ⟨p, q, k2 _ h5, (hW.joined hu e3).1 ((hW.row w1 hx1).1).symm⟩
  · rintro ⟨p, q, h1, h2⟩
    obtain ⟨zs, hz, b, c, x, y, e1, e2, e3, e4, e5, e6⟩ := hW.ends2 h1
    have e7 := (hW.joined hu e5).2 h2
    rw [(hW.row hz e3).1] at e7
    rw [e7]
    exact ⟨b, e2, (hW.edge i b c e1).2.2.2.1⟩

theorem rowV_nd (h : F.Good) {u : Int} {a : Nat} (hu : F.pv u = some a) : (rowIds F.who (F.M.rowOf a) false).Nodup := by
  obtain ⟨W, hW⟩ := h.ok
  obtain ⟨w1, w2⟩ := hW.walkOf (hW.placeV hu).1
  have hnd : (F.M.rowOf a).Nodup := row_nodup hW.ok (hW.rows.mem_iff.2 (List.mem_append_left _ w1))
  unfold rowIds
  refine List.pairwise_map.2 ?_
  refine List.Pairwise.imp_of_mem (R := fun s t => s ≠ t ∨ s.1 = true) ?_ ?_
  · intro s t hs ht hne e
    have s1 : s.1 = false := by simpa using (List.mem_filter.1 hs).2
    have t1 : t.1 = false := by simpa using (List.mem_filter.1 ht).2
    rcases hne with hne | h1
    · exact hne (Prod.ext (s1.trans t1.symm) e)
    · rw [s1] at h1; cases h1
  · refine List.Pairwise.filter _ (List.pairwise_map.2 ?_)
    refine hnd.imp_of_mem fun {c d} hc hd hne => ?_
    by_cases hb : (tok F.who c).1 = true
    · exact .inr hb
    · refine .inl fun e => hne ?_
      have tc : tok F.who c = vt (tok F.who c).2 := isV_eq (by unfold isV; simpa using hb)
      have q1 := (hW.vert _ c).2 ⟨List.mem_flatten.2 ⟨_, w1, hc⟩, tc⟩
      have q2 := (hW.vert (tok F.who c).2 d).2 ⟨List.mem_flatten.2 ⟨_, w1, hd⟩, by rw [← e]; exact tc⟩
      rw [q1] at q2
      exact Option.some.inj q2

theorem perm_len {xs ys : List Int} (h1 : xs.Nodup) (h2 : ys.Nodup) (h : ∀ i, i ∈ xs ↔ i ∈ ys) : xs.length = ys.length := ((List.perm_ext_iff_of_nodup h1 h2).2 h).length_eq

theorem rowIds_len (who : List Tok) (xs : List Nat) : (rowIds who xs false).length = ((xs.map (tok who)).filter isV).length := by
  unfold rowIds
  rw [List.length_map]
  congr 1
  apply List.filter_congr
  rintro ⟨b, i⟩ -
  cases b <;> rfl

/-- A tree has one vertex more than edges. -/
theorem FS.Good.lens (h : F.Good) {u : Int} {xs ys : List Int} (hin : u ∈ F.vs) (hx : Rise xs (F.inV u)) (hy : Rise ys (F.inE u)) : xs.length = ys.length + 1 := by
  obtain ⟨a, hu⟩ := Option.ne_none_iff_exists'.1 ((h.vs u).1 hin)
  obtain ⟨W, hW⟩ := h.ok
  obtain ⟨w1, w2⟩ := hW.walkOf (hW.placeV hu).1
  obtain ⟨es, k1, k2⟩ := hW.tour _ w1
  have e1 := perm_len hx.nd (rowV_nd h hu) fun i => by rw [hx.2, h.mem_rowV hu]
  have e2 := perm_len hy.nd (hW.edgesNd w1 k1) fun i => by
    rw [hy.2, ← h.mem_rowE hu, mem_rowIds, ← tour_et k1, List.mem_map]
    rfl
  rw [rowIds_len] at e1
  have e3 := tour_verts k1
  have e4 : ((F.M.rowOf a).map (tok F.who)).filter isV = ((F.M.rowOf a).map (tok F.who)).filter fun t => !t.1 := rfl
  rw [e4, e3] at e1
  rw [e1, e2]
  unfold ids
  rw [List.length_map]

/-- How many vertices a tree has. -/
theorem sum_n {M : RM SV} {who : List Tok} : ∀ (xs : List Nat), xs ≠ [] → xs.length ≤ 65536 → (∀ c ∈ xs, (M.val c).n = if isV (tok who c) = true then 1 else 0) → (bears M.val xs).n = (((xs.map (tok who)).filter isV).length : Int)
  | [], h, _, _ => absurd rfl h
  | [a], _, _, hv => by
    have := hv a (by simp)
    show (M.val a).n = _
    rw [this]
    simp only [List.map_cons, List.map_nil, List.filter_cons]
    split <;> simp
  | a :: b :: r, _, hl, hv => by
    have ih := sum_n (M := M) (who := who) (b :: r) (by simp) (by simp at hl ⊢; omega) (fun c hc => hv c (List.mem_cons_of_mem _ hc))
    have h1 := hv a (by simp)
    have hb : bears M.val (a :: b :: r) = SV.plus (M.val a) (bears M.val (b :: r)) := rfl
    have hle : (((b :: r).map (tok who)).filter isV).length ≤ 65536 := by
      have := List.length_filter_le isV ((b :: r).map (tok who))
      rw [List.length_map] at this
      simp only [List.length_cons] at hl this ⊢
      omega
    rw [hb]
    show IntKind.i64.wrap ((M.val a).n + (bears M.val (b :: r)).n) = _
    rw [ih, h1, List.map_cons (l := b :: r), List.filter_cons, IntKind.wrap_i64]
    split
    · simp only [List.length_cons]; omega
    · omega

theorem FS.Good.size (h : F.Good) {u : Int} {a : Nat} (hu : F.pv u = some a) {xs : List Int} (hx : Rise xs (F.inV u)) : (bears F.M.val (F.M.rowOf a)).n = (xs.length : Int) := by
  obtain ⟨W, hW⟩ := h.ok
  obtain ⟨w1, w2⟩ := hW.walkOf (hW.placeV hu).1
  have e1 := perm_len hx.nd (rowV_nd h hu) fun i => by rw [hx.2, h.mem_rowV hu]
  rw [e1, rowIds_len]
  refine sum_n _ (fun e => by rw [e] at w2; cases w2) ?_ ?_
  · have := row_len hW.ok (hW.rows.mem_iff.2 (List.mem_append_left _ w1))
    have := h.own
    omega
  · intro c hc
    rcases h.valOf hW (List.mem_flatten.2 ⟨_, w1, hc⟩) with ⟨v, e2, e3, e4⟩ | ⟨i, p, q, e2, e3, e4⟩
    · rw [e4, e2]; rfl
    · rw [e2]
      rcases e4 with ⟨-, e4⟩ | ⟨-, e4⟩ <;> rw [e4] <;> rfl

/-- A vertex is alone, or an edge has it as an end. -/
def FS.busy (F : FS) (v : Int) : Prop := ∃ id p q, (id, p, q) ∈ F.edges ∧ (p = v ∨ q = v)

theorem conn_end {es : List Edg} {u v : Int} (h : Conn es u v) : u = v ∨ ∃ id p q, (id, p, q) ∈ es ∧ (p = v ∨ q = v) := by
  cases h with
  | refl => exact .inl rfl
  | step _ he hx =>
    right
    rcases hx with ⟨_, e⟩ | ⟨_, e⟩
    · exact ⟨_, _, _, he, .inr e.symm⟩
    · exact ⟨_, _, _, he, .inl e.symm⟩

theorem FS.Good.alone (h : F.Good) {u : Int} {a : Nat} (hu : F.pv u = some a) {xs : List Int} (hx : Rise xs (F.inV u)) (hl : xs.length ≤ 1) : F.M.rowOf a = [a] := by
  obtain ⟨W, hW⟩ := h.ok
  obtain ⟨w1, w2⟩ := hW.walkOf (hW.placeV hu).1
  obtain ⟨es, k1, k2⟩ := hW.tour _ w1
  have e1 := perm_len hx.nd (rowV_nd h hu) fun i => by rw [hx.2, h.mem_rowV hu]
  rw [rowIds_len] at e1
  have e2 := tour_size k1
  rw [List.length_map] at e2
  obtain ⟨x, hx⟩ : ∃ x, x = F.M.rowOf a := ⟨_, rfl⟩
  rw [← hx] at w2 e1 e2 ⊢
  match x, w2 with
  | [y], w2 => rw [List.mem_singleton.1 w2]
  | y :: z :: r, _ => simp only [List.length_cons] at e2; omega

open Classical in
theorem FS.Good.busy_iff (h : F.Good) {u : Int} (hin : u ∈ F.vs) {xs : List Int} (hx : Rise xs (F.inV u)) : 1 < xs.length ↔ F.busy u := by
  obtain ⟨a, hu⟩ := Option.ne_none_iff_exists'.1 ((h.vs u).1 hin)
  have hux : u ∈ xs := (hx.2 u).2 ⟨hin, .refl _⟩
  obtain ⟨W, hW⟩ := h.ok
  constructor
  · intro hl
    obtain ⟨v, hv, hne⟩ : ∃ v ∈ xs, v ≠ u := by
      by_cases hall : ∀ v ∈ xs, v = u
      · exfalso
        have := hx.nd.length_le_of_subset (l₂ := [u]) (fun v hv => by simp [hall v hv])
        simp at this
        omega
      · have ⟨v, h2⟩ := Classical.not_forall.1 hall
        have ⟨h3, h4⟩ := Classical.not_imp.1 h2
        exact ⟨v, h3, h4⟩
    rcases conn_end ((hx.2 v).1 hv).2.symm with e | e
    · exact absurd e hne
    · exact e
  · rintro ⟨id, p, q, he, hpq⟩
    obtain ⟨zs, hz, b, c, x, y, e1, e2, e3, e4, e5, e6⟩ := hW.ends2 he
    have hrow : F.M.rowOf a = zs := by
      rcases hpq with rfl | rfl
      · rw [hu] at e5; injection e5 with e5; subst e5; exact (hW.row hz e3).1
      · rw [hu] at e6; injection e6 with e6; subst e6; exact (hW.row hz e4).1
    rcases Nat.lt_or_ge 1 xs.length with h1 | h1
    · exact h1
    · exfalso
      have e7 := h.alone hu hx h1
      rw [hrow] at e7
      rw [e7] at e2
      have e8 := (hW.edge id b c e1).2.2.2.1
      rw [List.mem_singleton.1 e2, (hW.placeV hu).2.1] at e8
      exact vt_ne_et _ _ e8

/-- One that is marked, or 0. -/
def SomeOk (P : Int → Prop) (x : Int) : Prop := P x ∨ (∀ i, ¬ P i) ∧ x = 0

theorem FS.Good.someV (h : F.Good) {u : Int} {a : Nat} (hu : F.pv u = some a) : SomeOk (fun i => F.inV u i ∧ F.mv i = true) (tok F.who (F.M.firstOf SV.m (F.M.rowOf a))).2 := by
  obtain ⟨W, hW⟩ := h.ok
  obtain ⟨w1, w2⟩ := hW.walkOf (hW.placeV hu).1
  unfold RM.firstOf
  cases hf : (F.M.rowOf a).find? (fun j => marks SV.m (F.M.val j)) with
  | some j =>
    left
    have hj := List.mem_of_find?_eq_some hf
    have hm := List.find?_some hf
    show F.inV u (tok F.who j).2 ∧ _
    have hm : decide (0 < (F.M.val j).m) = true := hm
    rcases h.valOf hW (List.mem_flatten.2 ⟨_, w1, hj⟩) with ⟨v, e2, e3, e4⟩ | ⟨i, p, q, e2, e3, e4⟩
    · rw [e2]
      refine ⟨(h.mem_rowV hu v).1 (mem_rowIds.2 ⟨j, hj, e2⟩), ?_⟩
      rw [e4] at hm
      show F.mv (tok F.who j).2 = true
      rw [e2]
      show F.mv v = true
      cases hv : F.mv v with
      | true => rfl
      | false => rw [hv] at hm; simp [b01] at hm
    · rcases e4 with ⟨-, e4⟩ | ⟨-, e4⟩ <;> rw [e4] at hm <;> simp at hm
  | none =>
    right
    refine ⟨?_, by show (tok F.who 0).2 = 0; rw [h.zero]⟩
    rintro i ⟨h1, h2⟩
    obtain ⟨c, hc, e⟩ := mem_rowIds.1 ((h.mem_rowV hu i).2 h1)
    have h3 := List.find?_eq_none.1 hf c hc
    have e3 := (hW.vert i c).2 ⟨List.mem_flatten.2 ⟨_, w1, hc⟩, e⟩
    rw [show marks SV.m (F.M.val c) = decide (0 < (F.M.val c).m) from rfl, h.bv i c e3, h2] at h3
    exact h3 rfl

theorem FS.Good.someE (h : F.Good) {u : Int} {a : Nat} (hu : F.pv u = some a) : SomeOk (fun i => F.inE u i ∧ F.me i = true) (tok F.who (F.M.firstOf SV.e (F.M.rowOf a))).2 := by
  obtain ⟨W, hW⟩ := h.ok
  obtain ⟨w1, w2⟩ := hW.walkOf (hW.placeV hu).1
  unfold RM.firstOf
  cases hf : (F.M.rowOf a).find? (fun j => marks SV.e (F.M.val j)) with
  | some j =>
    left
    have hj := List.mem_of_find?_eq_some hf
    have hm := List.find?_some hf
    show F.inE u (tok F.who j).2 ∧ _
    have hm : decide (0 < (F.M.val j).e) = true := hm
    rcases h.valOf hW (List.mem_flatten.2 ⟨_, w1, hj⟩) with ⟨v, e2, e3, e4⟩ | ⟨i, p, q, e2, e3, e4⟩
    · rw [e4] at hm; simp at hm
    · rw [e2]
      refine ⟨(h.mem_rowE hu i).1 (mem_rowIds.2 ⟨j, hj, e2⟩), ?_⟩
      show F.me (tok F.who j).2 = true
      rw [e2]
      show F.me i = true
      rcases e4 with ⟨-, e4⟩ | ⟨-, e4⟩
      · rw [e4] at hm
        cases hv : F.me i with
        | true => rfl
        | false => rw [hv] at hm; simp [b01] at hm
      · rw [e4] at hm; simp at hm
  | none =>
    right
    refine ⟨?_, by show (tok F.who 0).2 = 0; rw [h.zero]⟩
    rintro i ⟨⟨p, q, h1, h2⟩, h3⟩
    obtain ⟨zs, hz, b, c, x, y, e1, e2, e3, e4, e5, e6⟩ := hW.ends2 h1
    have e7 := (hW.joined hu e5).2 h2
    rw [(hW.row hz e3).1] at e7
    have h4 := List.find?_eq_none.1 hf b (by rw [e7]; exact e2)
    rw [show marks SV.e (F.M.val b) = decide (0 < (F.M.val b).e) from rfl, (h.be i b c e1).1, h3] at h4
    exact h4 rfl

end

end Go.Proofs.Ytlakcldgolpaiaa
