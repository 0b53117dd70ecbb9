/-
  A forest on its way: what link, cut and the counts at the vertices make of it.
-/
import Derived.Test.YtlhkajlkapoabaaZLK30
namespace Go.Proofs.Ytlhkajlkapoabaa
open Go.RowKit Go.Maps
set_option linter.unusedVariables false

/-- Only counts have changed. -/
theorem Fs.count {S : Nat → Prop} {P : Nat → Option Nat} {N N' : Nat → NdL} {K : List (ST × Option Nat)} (h : Fs S P N K) (hs : ∀ b, (N' b).n = (N b).n ∧ Alk (N' b) (N b)) : Fs S P N' K := by
  have hn : nOf N' = nOf N := by funext b; exact (hs b).1
  refine ⟨h.full, h.part, h.nodup, fun c hc => ?_, fun c hc => told_far (h.told c hc) fun b _ => (hs b).2, h.hang, h.line, h.rank, ?_, ?_⟩
  · rw [hn]; exact h.laid c hc
  · rw [eds_far (N := N) fun b _ => (hs b).2.1]; exact h.bs
  · rw [eds_far (N := N) fun b _ => (hs b).2.1]; exact h.bk

theorem NAt.setD {w w0 : World} {S : Nat → Prop} {N : Nat → NdL} {c : Nat} (h : NAt w S N) (hc : S c) (d : Int) (hm : Mod S w0 w) : NAt (w.setCell ⟨c, 4, none⟩ (.int .i64 d)) S (updL N c { N c with d := d }) ∧ Mod S w0 (w.setCell ⟨c, 4, none⟩ (.int .i64 d)) :=
  ⟨h.upd (mod_set (Mod.refl _ _) _) ((h c hc).set_ 4 _), mod_setS hm hc _ _⟩

/-- The forest's blocks but its nodes. -/
structure LBox (w : World) (f bv be : Nat) (S : Nat → Prop) (vs es : Int → Option Nat) : Prop where
  blk : Blk w f 64 #[.map (some bv), .map (some be)]
  verts : MapG kI pQ w bv 4096 fun v => ptrO (vs v)
  edges : MapG kI pQ w be 4096 fun i => ptrO (es i)
  vS : ∀ v a, vs v = some a → S a
  eS : ∀ i a, es i = some a → S a
  fS : ¬ S f
  bvS : ¬ S bv
  beS : ¬ S be
  ne : bv ≠ be

theorem LBox.mod {w w' : World} {f bv be : Nat} {S : Nat → Prop} {vs es : Int → Option Nat} (h : LBox w f bv be S vs es) (hm : Mod S w w') : LBox w' f bv be S vs es :=
  ⟨h.blk.mod hm h.fS, h.verts.mod hm h.bvS, h.edges.mod hm h.beS, h.vS, h.eS, h.fS, h.bvS, h.beS, h.ne⟩

theorem LAt.box {w : World} {f bv be : Nat} {S : Nat → Prop} {P : Nat → Option Nat} {N : Nat → NdL} {K : List (ST × Option Nat)} {vs es : Int → Option Nat} (h : LAt w f bv be S P N K vs es) : LBox w f bv be S vs es :=
  ⟨h.blk, h.verts, h.edges, h.vS, h.eS, h.fS, h.bvS, h.beS, h.ne⟩

theorem LBox.at_ {w : World} {f bv be : Nat} {S : Nat → Prop} {P : Nat → Option Nat} {N : Nat → NdL} {K : List (ST × Option Nat)} {vs es : Int → Option Nat} (h : LBox w f bv be S vs es) (hN : NAt w S N) (hf : Fs S P N K) : LAt w f bv be S P N K vs es :=
  ⟨h.blk, h.verts, h.edges, hN, hf, h.vS, h.eS, h.bvS, h.beS, h.ne⟩

/-- Who is next to whom, which edge stands at a node, and its count. -/
structure LkM (f bv be : Nat) (S : Nat → Prop) (vs es : Int → Option Nat) (R : Nat → Nat → Prop) (E : Nat → Eg) (D : Nat → Int) (w : World) (P : Nat → Option Nat) (N : Nat → NdL) (K : List (ST × Option Nat)) : Prop where
  at_ : LAt w f bv be S P N K vs es
  adj : ∀ x y, Adj P x y ↔ R x y
  nod : ∀ x, (N x).e = E x ∧ (N x).d = D x

/-- The two are next to one another, either way. -/
def Two (k z x y : Nat) : Prop := (x = k ∧ y = z) ∨ (x = z ∧ y = k)

section

variable {w : World} {f bv be : Nat} {S : Nat → Prop} {P : Nat → Option Nat} {N : Nat → NdL} {K : List (ST × Option Nat)} {vs es : Int → Option Nat} {R : Nat → Nat → Prop} {E : Nat → Eg} {D : Nat → Int} {k z : Nat}

theorem LkM.count (h : LkM f bv be S vs es R E D w P N K) (hz : S z) (d : Int) : LkM f bv be S vs es R E (fun x => if x = z then d else D x) (w.setCell ⟨z, 4, none⟩ (.int .i64 d)) P (updL N z { N z with d := d }) K ∧ Mod S w (w.setCell ⟨z, 4, none⟩ (.int .i64 d)) := by
  obtain ⟨h1, h2⟩ := NAt.setD h.at_.at_ hz d (Mod.refl S w)
  refine ⟨⟨(h.at_.box.mod h2).at_ h1 (h.at_.fs.count fun b => ?_), h.adj, fun x => ?_⟩, h2⟩
  · by_cases hb : b = z
    · subst hb; rw [updL_same]; exact ⟨rfl, rfl, rfl, rfl, rfl⟩
    · rw [updL_ne N _ hb]; exact ⟨rfl, rfl, rfl, rfl, rfl⟩
  · by_cases hb : x = z
    · subst hb; rw [updL_same, if_pos rfl]; exact ⟨(h.nod x).1, rfl⟩
    · rw [updL_ne N _ hb, if_neg hb]; exact h.nod x

theorem LkD.next {w' : World} {P1 : Nat → Option Nat} {N' : Nat → NdL} {K' : List (ST × Option Nat)} (L : LkD S P w N k z w' P1 N' K') (hb : LBox w f bv be S vs es) (hr : ∃ rk, Ranks P rk) (hR : ∀ x y, Adj P x y ↔ R x y) (hn : ∀ x, (N x).e = E x ∧ (N x).d = D x) : LkM f bv be S vs es (fun x y => R x y ∨ Two k z x y) E D w' (setP P1 k (some z)) N' K' := by
  obtain ⟨B, hB, hl⟩ := L.turn
  have hnd := line_rev_nd hr hl
  have h0 : P1 k = none := by rw [hB]; exact (lineP_line (P := P) (u := none) hnd).1
  refine ⟨(hb.mod L.mod).at_ L.at_ L.fs, fun x y => ?_, fun x => ⟨(L.same x).1.trans (hn x).1, (L.same x).2.trans (hn x).2⟩⟩
  rw [adj_graft h0, ← hR]
  have := adj_lead hnd hl x y
  rw [← hB] at this
  rw [this]
  rfl

/-- A node hangs on another tree's. -/
theorem LkM.link (h : LkM f bv be S vs es R E D w P N K) (hk : S k) (hz : S z) (T : Nat → Prop) (hT : T k) (hstep : ∀ x y, S x → S y → R x y → T x → T y) (hnz : ¬ T z) :
    Calls Try.prog 30 #[.pointer (some ⟨k, 0, none⟩), .pointer (some ⟨z, 0, none⟩)] w fun e w' => e = .returned (.tuple #[]) ∧ ∃ P2 N2 K2, LkM f bv be S vs es (fun x y => R x y ∨ Two k z x y) E D w' P2 N2 K2 ∧ Mod S w w' := by
  refine (link_any w S P N K h.at_.fs h.at_.at_ k z hk hz (no_reach h.at_.fs.shut h.at_.fs.rank hk hz T hT (fun x y sx sy e => hstep x y sx sy ((h.adj x y).1 e)) hnz)).mono ?_
  rintro e w' ⟨rfl, P1, N', K', L⟩
  exact ⟨rfl, _, _, _, L.next h.at_.box h.at_.fs.rank h.adj h.nod, L.mod⟩

/-- A node that has not told of itself yet hangs on another tree's. -/
theorem link_first {e : Eg} (hbx : LBox w f bv be S vs es) (hN : NAt w S (updL N k (madeL e))) (hf : Fs S P N ((.node .nil k false .nil, none) :: K)) (hnk : N k = toldL e 0) (hR : ∀ x y, Adj P x y ↔ R x y) (hn : ∀ x, (N x).e = E x ∧ (N x).d = D x) (hk : S k) (hz : S z) (T : Nat → Prop) (hT : T k) (hstep : ∀ x y, S x → S y → R x y → T x → T y) (hnz : ¬ T z) :
    Calls Try.prog 30 #[.pointer (some ⟨k, 0, none⟩), .pointer (some ⟨z, 0, none⟩)] w fun e w' => e = .returned (.tuple #[]) ∧ ∃ P2 N2 K2, LkM f bv be S vs es (fun x y => R x y ∨ Two k z x y) E D w' P2 N2 K2 ∧ Mod S w w' := by
  refine (link_of w S P N _ k z hk hz (no_reach hf.shut hf.rank hk hz T hT (fun x y sx sy e => hstep x y sx sy ((hR x y).1 e)) hnz) (lead_of w S P N _ k hk (expose_new w S P N K k e 0 (madeL e) hf hnk ⟨rfl, rfl, rfl⟩ hN))).mono ?_
  rintro e w' ⟨rfl, P1, N', K', L⟩
  exact ⟨rfl, _, _, _, L.next hbx hf.rank hR hn, L.mod⟩

/-- Two neighbours part. -/
theorem LkM.cut (h : LkM f bv be S vs es R E D w P N K) (hk : S k) (hz : S z) (hkz : R k z) :
    Calls Try.prog 31 #[.pointer (some ⟨k, 0, none⟩), .pointer (some ⟨z, 0, none⟩)] w fun e w' => e = .returned (.tuple #[]) ∧ ∃ P2 N2 K2, LkM f bv be S vs es (fun x y => R x y ∧ ¬ Two k z x y) E D w' P2 N2 K2 ∧ Mod S w w' := by
  have hup := fun B hB => is_above h.at_.fs.rank ((h.adj k z).2 hkz) B hB
  refine (cut_any w S P N K h.at_.fs h.at_.at_ k z hk hz hup).mono ?_
  rintro e w' ⟨rfl, P1, N', K', C⟩
  obtain ⟨B, hB, hl⟩ := C.turn
  have hnd := line_rev_nd h.at_.fs.rank hl
  have h0 : P1 k = none := by rw [hB]; exact (lineP_line (P := P) (u := none) hnd).1
  have h1 : P1 z = some k := by rw [hB]; exact hup B hl
  refine ⟨rfl, _, _, _, ⟨(h.at_.box.mod C.mod).at_ C.at_ C.fs, fun x y => ?_, fun x => ⟨(C.same x).1.trans (h.nod x).1, (C.same x).2.trans (h.nod x).2⟩⟩, C.mod⟩
  rw [adj_snip h0 h1, ← h.adj]
  have := adj_lead hnd hl x y
  rw [← hB] at this
  rw [this]
  rfl

end

end Go.Proofs.Ytlhkajlkapoabaa

/-
  An edge's node is made and stands alone, known to the map: where Link's loop begins.
-/
namespace Go.Proofs.Ytlhkajlkapoabaa
open Go.RowKit Go.Maps
set_option linter.unusedVariables false

theorem linkE_ok {F : LF} {id u v wt : Int} (h : F.linkE id u v wt = 0) : okId id ∧ okId u ∧ okId v ∧ ¬ wt < 0 ∧ ¬ 1099511627776 < wt ∧ id ∉ F.es.map Eg.id ∧ u ∈ F.vs ∧ v ∈ F.vs ∧ ¬ F.Join u v := by
  unfold LF.linkE at h
  split at h
  · rename_i h1
    split at h
    · cases h
    · rename_i h2
      split at h
      · cases h
      · rename_i h3
        split at h
        · rename_i h4
          split at h
          · cases h
          · rename_i h5
            exact ⟨h1.1, h1.2.1, h1.2.2, fun hh => h2 (.inl hh), fun hh => h2 (.inr hh), h3, h4.1, h4.2, h5⟩
        · cases h
  · cases h

theorem made_cells (e : Eg) : encL (madeL e) = #[.pointer none, .pointer none, .pointer none, .bool false, .int .i64 0, .int .i64 e.id, .int .i64 e.u, .int .i64 e.v, .int .i64 (e.w : Int), .int .i64 0, .int .i64 0, .int .i64 0, .int .i64 0, .complex .f64 0 0] := by
  unfold encL madeL
  dsimp only
  rw [fl_zero']
  rfl

theorem updL_twice (N : Nat → NdL) (a : Nat) (x y : NdL) : updL (updL N a x) a y = updL N a y := by
  funext b
  by_cases hb : b = a
  · subst hb; rw [updL_same, updL_same]
  · rw [updL_ne _ _ hb, updL_ne _ _ hb, updL_ne _ _ hb]

section

variable {w : World} {f bv be : Nat} {S : Nat → Prop} {P : Nat → Option Nat} {N : Nat → NdL} {K : List (ST × Option Nat)} {vs es : Int → Option Nat} {F : LF}

/-- Where the loop begins. -/
structure LkB (w : World) (f bv be : Nat) (S : Nat → Prop) (P : Nat → Option Nat) (N : Nat → NdL) (K : List (ST × Option Nat)) (vs es : Int → Option Nat) (k : Nat) (e : Eg) : Prop where
  box : LBox w f bv be (fun x => S x ∨ x = k) vs (fun i => if i = e.id then some k else es i)
  nat : NAt w (fun x => S x ∨ x = k) (updL N k (madeL e))
  fs : Fs (fun x => S x ∨ x = k) (setP P k none) (updL N k (toldL e 0)) ((.node .nil k false .nil, none) :: K)

theorem LkB.mod {w' : World} {k : Nat} {e : Eg} (h : LkB w f bv be S P N K vs es k e) (hb : Below w.heap.size w w') : LkB w' f bv be S P N K vs es k e :=
  ⟨h.box.mod (Mod.of_below hb _), h.nat.below hb, h.fs⟩

theorem link_start (h : LFAt w f bv be S P N K vs es F) (e : Eg) (hid : okId e.id) (hnew : e.id ∉ F.es.map Eg.id) (hw : e.w ≤ 1099511627776) {W : World} {k : Nat} (hk : k = w.heap.size) (hW : W = (w.alloc (.cells (encL (madeL e)) 71)).drew) :
    ∃ w', (Instr.mapUpdate 62 (.map (some be)) (.int .i64 e.id) (.pointer (some ⟨k, 0, none⟩))).run Try.prog W = .ok () w' ∧ LkB w' f bv be S P N K vs es k e ∧ Mod (fun x => x = be) w w' := by
  obtain ⟨b1, b2, b3⟩ := h.bounds
  have hbW : Below w.heap.size w W := by rw [hW]; exact ((Below.refl _ _).alloc (Nat.le_refl _) _).drew
  have kW : Blk W k 71 (encL (madeL e)) := by rw [hW, hk]; exact (Blk.new _ _ _).drew
  have hS : ¬ S k := fun hs => by rw [hk] at hs; exact Nat.lt_irrefl _ (h.at_.at_ _ hs).lt
  have hi : I64 e.id := I64_of hid
  have hbe : be ≠ k := by rw [hk]; exact Nat.ne_of_lt h.at_.edges.lt
  have hbv : bv ≠ k := by rw [hk]; exact Nat.ne_of_lt h.at_.verts.lt
  have hfk : f ≠ k := by rw [hk]; exact Nat.ne_of_lt h.at_.blk.lt
  have hfe : f ≠ be := fun e => h.at_.edges.notBlk h.at_.blk e.symm
  obtain ⟨w2, hrun, m2, t2⟩ := MapG.store (X := kI) (h.at_.edges.same (hbW.block _ h.at_.edges.lt)) Try.underlying62 (by omega) (a := e.id) hi (v := .pointer (some ⟨k, 0, none⟩)) ⟨_, rfl⟩
  have hm2 : Mod (fun x => x = be) W w2 := (Mod.refl _ W).turned t2 (fun _ => rfl)
  have hmw : Mod (fun x => x = be) w w2 := (Mod.of_below hbW _).trans' hm2
  have hfs := h.at_.fs.add hS e 0 (by have : e.stepS ≤ 1099511627776 := by { unfold Eg.stepS; split <;> omega }; omega) (by have : e.stepK ≤ 1 := by { unfold Eg.stepK; split <;> omega }; omega)
  refine ⟨w2, hrun, ⟨⟨h.at_.blk.mod hmw hfe, h.at_.verts.mod hmw h.at_.ne, ?_, fun v a hv => .inl (h.at_.vS v a hv), fun i a hia => ?_, ?_, ?_, ?_, h.at_.ne⟩, ?_, hfs⟩, hmw⟩
  · have hkk := MapG.cast (X := kI) m2 (f' := fun i => ptrO (if i = e.id then some k else es i)) (fun i _ => by
      by_cases hu : i = e.id
      · rw [if_pos hu, if_pos hu]; rfl
      · rw [if_neg hu, if_neg hu])
    refine hkk.bound (L := F.es.map Eg.id ++ [e.id]) ?_ (fun i => ?_) |>.mono (by rw [List.length_append, List.length_map]; simp; omega)
    · refine List.nodup_append.2 ⟨h.gd.idnd, by simp, fun x hx y hy hh => ?_⟩
      have hy : y = e.id := by simpa using hy
      exact hnew (by rw [← hy, ← hh]; exact hx)
    · rw [List.mem_append, h.ekeys i, List.mem_singleton]
      constructor
      · rintro (⟨h1, h2⟩ | h1)
        · refine ⟨h1, ?_⟩
          by_cases hu : i = e.id
          · rw [if_pos hu]; rfl
          · rw [if_neg hu]; exact h2
        · refine ⟨by rw [h1]; exact hi, ?_⟩
          rw [if_pos h1]; rfl
      · rintro ⟨h1, h2⟩
        by_cases hu : i = e.id
        · exact .inr hu
        · rw [if_neg hu] at h2; exact .inl ⟨h1, h2⟩
  · have hia : (if i = e.id then some k else es i) = some a := hia
    by_cases hu : i = e.id
    · rw [if_pos hu] at hia; injection hia with hia; exact .inr hia.symm
    · rw [if_neg hu] at hia; exact .inl (h.at_.eS i a hia)
  · rintro (hs | hs)
    · exact h.at_.fS hs
    · exact hfk hs
  · rintro (hs | hs)
    · exact h.at_.bvS hs
    · exact hbv hs
  · rintro (hs | hs)
    · exact h.at_.beS hs
    · exact hbe hs
  · rintro x (hx | hx)
    · rw [updL_ne N _ (fun e : x = k => hS (e ▸ hx))]
      exact (h.at_.at_ x hx).mod hmw (fun e => h.at_.beS (e ▸ hx))
    · subst hx
      rw [updL_same]
      exact kW.mod hm2 (fun e => hbe e.symm)

/-- What the loop's first call finds. -/
theorem LkB.first {k a : Nat} {e : Eg} (h : LkB w f bv be S P N K vs es k e) (hk : ¬ S k) (hP : Shut S P) (ha : S a) :
    Calls Try.prog 30 #[.pointer (some ⟨k, 0, none⟩), .pointer (some ⟨a, 0, none⟩)] w fun r w' => r = .returned (.tuple #[]) ∧ ∃ P2 N2 K2, LkM f bv be (fun x => S x ∨ x = k) vs (fun i => if i = e.id then some k else es i) (fun x y => Adj (setP P k none) x y ∨ Two k a x y) (fun x => (updL N k (toldL e 0) x).e) (fun x => (updL N k (toldL e 0) x).d) w' P2 N2 K2 ∧ Mod (fun x => S x ∨ x = k) w w' := by
  refine link_first (e := e) h.box (by rw [updL_twice]; exact h.nat) h.fs (updL_same _ _ _) (fun x y => Iff.rfl) (fun x => ⟨rfl, rfl⟩) (.inr rfl) (.inl ha) (fun x => ¬ S x) hk ?_ (fun hn => hn ha)
  rintro x y sx sy hxy hx hy
  have hxk : x = k := by rcases sx with h | h; exact absurd h hx; exact h
  subst hxk
  rcases hxy with e1 | e1
  · rw [setP_same] at e1; cases e1
  · rw [setP_ne (fun e : y = x => hk (e ▸ hy))] at e1
    exact hk (hP y x hy e1)

/-- A neighbour of the new edge's node. -/
theorem new_adj {k : Nat} (hk : ¬ S k) (hP : Shut S P) {x y : Nat} (sx : S x ∨ x = k) (sy : S y ∨ y = k) : Adj (setP P k none) x y ↔ S x ∧ S y ∧ Adj P x y := by
  have hno : ∀ x, S x → ¬ Adj (setP P k none) k x := fun x hx hh => by
    rcases hh with e | e
    · rw [setP_same] at e; cases e
    · rw [setP_ne (fun e : x = k => hk (e ▸ hx))] at e
      exact hk (hP x k hx e)
  constructor
  · intro hh
    rcases sx with hx | hx
    · rcases sy with hy | hy
      · refine ⟨hx, hy, ?_⟩
        unfold Adj at hh ⊢
        rwa [setP_ne (fun e : x = k => hk (e ▸ hx)), setP_ne (fun e : y = k => hk (e ▸ hy))] at hh
      · subst hy; exact absurd hh.symm (hno x hx)
    · subst hx
      rcases sy with hy | hy
      · exact absurd hh (hno y hy)
      · subst hy
        rcases hh with e | e <;> (rw [setP_same] at e; cases e)
  · rintro ⟨hx, hy, hh⟩
    unfold Adj at hh ⊢
    rwa [setP_ne (fun e : x = k => hk (e ▸ hx)), setP_ne (fun e : y = k => hk (e ▸ hy))]

end

end Go.Proofs.Ytlhkajlkapoabaa

/-
  Link's loop of two, laid out ahead of its walk.
-/
namespace Go.Proofs.Ytlhkajlkapoabaa
open Go.RowKit Go.Maps
set_option linter.unusedVariables false

/-- What the loop reads of the forest. -/
def See (w : World) (f bv : Nat) (vs : Int → Option Nat) : Prop := w.cell? ⟨f, 0, none⟩ = some (.map (some bv)) ∧ MapG kI pQ w bv 4096 fun v => ptrO (vs v)

theorem LBox.see {w : World} {f bv be : Nat} {S : Nat → Prop} {vs es : Int → Option Nat} (h : LBox w f bv be S vs es) : See w f bv vs := ⟨h.blk.cell 0, h.verts⟩

/-- A vertex' count, and what storing another one makes. -/
structure Cnt (w : World) (f bv : Nat) (vs : Int → Option Nat) (a : Nat) (d d' : Int) (St : World → Prop) : Prop where
  see : See w f bv vs
  cell : w.cell? ⟨a, 4, none⟩ = some (.int .i64 d)
  frozen : w.frozen? ⟨a, 4, none⟩ = false
  st : St (w.setCell ⟨a, 4, none⟩ (.int .i64 d'))

theorem LkM.cnt {w0 w : World} {f bv be : Nat} {S T : Nat → Prop} {P : Nat → Option Nat} {N : Nat → NdL} {K : List (ST × Option Nat)} {vs es : Int → Option Nat} {R : Nat → Nat → Prop} {E : Nat → Eg} {D : Nat → Int} {z : Nat} (h : LkM f bv be S vs es R E D w P N K) (hz : S z) {d d' : Int} (hd : D z = d) (hm : Mod T w0 w) (hT : ∀ x, x < w0.heap.size → S x → T x) {St : World → Prop} (hs : ∀ w' N', LkM f bv be S vs es R E (fun x => if x = z then d' else D x) w' P N' K → Mod T w0 w' → St w') : Cnt w f bv vs z d d' St := by
  obtain ⟨h1, h2⟩ := h.count hz d'
  refine ⟨h.at_.box.see, ?_, (h.at_.at_ z hz).frozen 4, hs _ _ h1 (hm.trans h2 hT)⟩
  have k : w.cell? ⟨z, 4, none⟩ = some (.int .i64 (N z).d) := (h.at_.at_ z hz).cell 4
  rw [k, (h.nod z).2, hd]

/-- The loop's plan. -/
structure LkPlan (f bv : Nat) (vs : Int → Option Nat) (k a b : Nat) (du dv : Int) (St0 Q1 St1 Q2 St2 : World → Prop) : Prop where
  s0 : ∀ w, St0 w → See w f bv vs
  c1 : ∀ w, St0 w → Calls Try.prog 30 #[.pointer (some ⟨k, 0, none⟩), .pointer (some ⟨a, 0, none⟩)] w fun r w' => r = .returned (.tuple #[]) ∧ Q1 w'
  n1 : ∀ w, Q1 w → Cnt w f bv vs a du (du + 1) St1
  s1 : ∀ w, St1 w → See w f bv vs
  c2 : ∀ w, St1 w → Calls Try.prog 30 #[.pointer (some ⟨k, 0, none⟩), .pointer (some ⟨b, 0, none⟩)] w fun r w' => r = .returned (.tuple #[]) ∧ Q2 w'
  n2 : ∀ w, Q2 w → Cnt w f bv vs b dv (dv + 1) St2

section

variable {w : World} {f bv be : Nat} {S : Nat → Prop} {P : Nat → Option Nat} {N : Nat → NdL} {K : List (ST × Option Nat)} {vs es : Int → Option Nat} {F : LF}

/-- A forest that an edge has come to. -/
def Linked (w0 : World) (f bv be : Nat) (S : Nat → Prop) (vs es : Int → Option Nat) (F : LF) (e : Eg) (k : Nat) (w' : World) : Prop :=
  ∃ P N K, LFAt w' f bv be (fun x => S x ∨ x = k) P N K vs (fun i => if i = e.id then some k else es i) ⟨F.vs, F.es ++ [e]⟩ ∧ Mod (fun x => S x ∨ x = be) w0 w'

theorem link_plan (h : LFAt w f bv be S P N K vs es F) (e : Eg) (hz : F.linkE e.id e.u e.v (e.w : Int) = 0) {a b : Nat} (ha : vs e.u = some a) (hb : vs e.v = some b) {W : World} {k : Nat} (hk : k = w.heap.size) (hW : W = (w.alloc (.cells (encL (madeL e)) 71)).drew) :
    ∃ St0 Q1 St1 Q2 : World → Prop, LkPlan f bv vs k a b (F.deg e.u) (F.deg e.v) St0 Q1 St1 Q2 (Linked w f bv be S vs es F e k) ∧
      ∃ w', (Instr.mapUpdate 62 (.map (some be)) (.int .i64 e.id) (.pointer (some ⟨k, 0, none⟩))).run Try.prog W = .ok () w' ∧ Mod (fun x => x = be) w w' ∧ ∀ w2, Below w'.heap.size w' w2 → St0 w2 := by
  obtain ⟨i1, i2, i3, -, h4, h5, h6, h7, h8⟩ := linkE_ok hz
  have hew : e.w ≤ 1099511627776 := by omega
  obtain ⟨w', hrun, hB, hM⟩ := link_start h e i1 h5 hew hk hW
  have hS : ¬ S k := fun hs => by rw [hk] at hs; exact Nat.lt_irrefl _ (h.at_.at_ _ hs).lt
  have hshut := h.at_.fs.shut
  have haS := h.at_.vS _ _ ha
  have hbS := h.at_.vS _ _ hb
  have hab : a ≠ b := fun e1 => h8 (by rw [h.gd.vinj _ _ a ha (e1 ▸ hb)]; exact .refl)
  have hak : a ≠ k := fun e1 => hS (e1 ▸ haS)
  have hbk : b ≠ k := fun e1 => hS (e1 ▸ hbS)
  have hT : ∀ x, x < w.heap.size → (S x ∨ x = k) → S x ∨ x = be := fun x hx hs => by
    rcases hs with hs | hs
    · exact .inl hs
    · omega
  have hda : (updL N k (toldL e 0) a).d = F.deg e.u := by rw [updL_ne N _ hak]; exact (h.gd.vN _ a ha).2
  have hdb : (updL N k (toldL e 0) b).d = F.deg e.v := by rw [updL_ne N _ hbk]; exact (h.gd.vN _ b hb).2
  refine ⟨fun w2 => LkB w2 f bv be S P N K vs es k e ∧ Mod (fun x => S x ∨ x = be) w w2,
    fun w2 => ∃ P2 N2 K2, LkM f bv be (fun x => S x ∨ x = k) vs (fun i => if i = e.id then some k else es i) (fun x y => Adj (setP P k none) x y ∨ Two k a x y) (fun x => (updL N k (toldL e 0) x).e) (fun x => (updL N k (toldL e 0) x).d) w2 P2 N2 K2 ∧ Mod (fun x => S x ∨ x = be) w w2,
    fun w2 => ∃ P2 N2 K2, LkM f bv be (fun x => S x ∨ x = k) vs (fun i => if i = e.id then some k else es i) (fun x y => Adj (setP P k none) x y ∨ Two k a x y) (fun x => (updL N k (toldL e 0) x).e) (fun x => if x = a then F.deg e.u + 1 else (updL N k (toldL e 0) x).d) w2 P2 N2 K2 ∧ Mod (fun x => S x ∨ x = be) w w2,
    fun w2 => ∃ P2 N2 K2, LkM f bv be (fun x => S x ∨ x = k) vs (fun i => if i = e.id then some k else es i) (fun x y => (Adj (setP P k none) x y ∨ Two k a x y) ∨ Two k b x y) (fun x => (updL N k (toldL e 0) x).e) (fun x => if x = a then F.deg e.u + 1 else (updL N k (toldL e 0) x).d) w2 P2 N2 K2 ∧ Mod (fun x => S x ∨ x = be) w w2,
    ⟨fun w2 h2 => h2.1.box.see, fun w2 h2 => ?_, fun w2 h2 => ?_, fun w2 h2 => ?_, fun w2 h2 => ?_, fun w2 h2 => ?_⟩, w', hrun, hM, fun w2 hb2 => ⟨hB.mod hb2, (hM.mono fun x _ hx => .inr hx).trans' (Mod.of_below hb2 _)⟩⟩
  · refine (h2.1.first hS hshut haS).mono ?_
    rintro r w3 ⟨rfl, P2, N2, K2, L, m⟩
    exact ⟨rfl, P2, N2, K2, L, h2.2.trans m hT⟩
  · obtain ⟨P2, N2, K2, L, m⟩ := h2
    exact L.cnt (.inl haS) hda m hT fun w3 N3 L3 m3 => ⟨P2, N3, K2, L3, m3⟩
  · obtain ⟨P2, N2, K2, L, m⟩ := h2
    exact L.at_.box.see
  · obtain ⟨P2, N2, K2, L, m⟩ := h2
    have hnj : ¬ Con (AdjS S P) a b := fun hc => h8 ((h.gd.join ha hb).1 hc)
    refine (L.link (.inr rfl) (.inl hbS) (fun x => x = k ∨ Con (AdjS S P) a x) (.inl rfl) ?_ ?_).mono ?_
    · rintro x y sx sy (hxy | ⟨rfl, rfl⟩ | ⟨rfl, rfl⟩) hx
      · obtain ⟨hx1, hy1, hh⟩ := (new_adj hS hshut sx sy).1 hxy
        rcases hx with hx | hx
        · exact absurd (hx ▸ hx1) hS
        · exact .inr (.step hx ⟨hx1, hy1, hh⟩)
      · exact .inr (.refl _)
      · exact .inl rfl
    · rintro (hh | hh)
      · exact hbk hh
      · exact hnj hh
    · rintro r w3 ⟨rfl, P3, N3, K3, L3, m3⟩
      exact ⟨rfl, P3, N3, K3, L3, m.trans m3 hT⟩
  · obtain ⟨P2, N2, K2, L, m⟩ := h2
    refine L.cnt (d := F.deg e.v) (.inl hbS) (by rw [if_neg (fun e1 : b = a => hab e1.symm)]; exact hdb) m hT fun w3 N3 L3 m3 => ⟨P2, N3, K2, ⟨L3.at_, ?_, h.few, h.ids, ?_⟩, m3⟩
    · refine h.gd.link hS ha hb (fun e1 => h8 (by rw [e1]; exact .refl)) (h.eNone h5) (fun x y sx sy => ?_) (fun x hx => ?_) ?_ (fun x hx => ?_)
      · rw [L3.adj x y, new_adj hS hshut sx sy]
        unfold Two
        constructor
        · rintro ((h1 | ⟨h1, h2⟩ | ⟨h1, h2⟩) | ⟨h1, h2⟩ | ⟨h1, h2⟩)
          · exact .inl h1
          · exact .inr (.inl ⟨h1, .inl h2⟩)
          · exact .inr (.inr ⟨h2, .inl h1⟩)
          · exact .inr (.inl ⟨h1, .inr h2⟩)
          · exact .inr (.inr ⟨h2, .inr h1⟩)
        · rintro (h1 | ⟨h1, h2 | h2⟩ | ⟨h1, h2 | h2⟩)
          · exact .inl (.inl h1)
          · exact .inl (.inr (.inl ⟨h1, h2⟩))
          · exact .inr (.inl ⟨h1, h2⟩)
          · exact .inl (.inr (.inr ⟨h2, h1⟩))
          · exact .inr (.inr ⟨h2, h1⟩)
      · rw [(L3.nod x).1]
        show (updL N k (toldL e 0) x).e = _
        rw [updL_ne N _ (fun e1 : x = k => hS (e1 ▸ hx))]
      · rw [(L3.nod k).1]
        show (updL N k (toldL e 0) k).e = _
        rw [updL_same]
        rfl
      · have hxk : x ≠ k := fun e1 => hS (e1 ▸ hx)
        rw [(L3.nod x).2]
        show (if x = b then F.deg e.v + 1 else if x = a then F.deg e.u + 1 else (updL N k (toldL e 0) x).d) = _
        rw [updL_ne N _ hxk]
        by_cases e1 : x = b
        · rw [if_pos e1, if_pos (.inr e1), e1, (h.gd.vN _ b hb).2]
        · rw [if_neg e1]
          by_cases e2 : x = a
          · rw [if_pos e2, if_pos (.inl e2), e2, (h.gd.vN _ a ha).2]
          · rw [if_neg e2, if_neg (fun hh => hh.elim e2 e1)]; omega
    · intro x hx
      rcases List.mem_append.1 hx with hx | hx
      · exact h.eids x hx
      · rw [List.mem_singleton.1 hx]
        exact ⟨i1.1, i1.2, hew⟩

theorem deg_le (h : LFAt w f bv be S P N K vs es F) (v : Int) : 0 ≤ F.deg v ∧ F.deg v ≤ 2048 := by
  have h1 := h.bounds.1
  have h2 : (F.es.filter fun e => e.u == v || e.v == v).length ≤ F.es.length := List.length_filter_le _ _
  unfold LF.deg
  omega

end

end Go.Proofs.Ytlhkajlkapoabaa
