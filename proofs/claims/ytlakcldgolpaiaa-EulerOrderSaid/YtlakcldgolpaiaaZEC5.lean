/-
  A forest in memory, with all its blocks; what of it stays where something else turns. No walk.
-/
import Derived.WalkLawsBesides
import Derived.Test.YtlakcldgolpaiaaZEC0
namespace Go.Proofs.Ytlakcldgolpaiaa
open Go.RowKit Go.Maps
set_option linter.unusedVariables false

theorem encTk_one (x : Tok) : ∀ u ∈ encTk x, u.oneCell' = true := by
  intro u hu
  simp [encTk] at hu
  rcases hu with rfl | rfl <;> rfl

/-- A forest's memory, its blocks apart from each other. -/
structure FMX (w : World) (f g bv be : Nat) (whoV : Value) (S0 : Nat → Prop) (M : RM SV) (pv : Int → Option Nat) (pe : Int → Option (Nat × Nat)) (who : List Tok) (free : List Nat) : Prop where
  at_ : FAt w f g 0 S0 bv be whoV M pv pe who free
  ne : bv ≠ be

def ownF (f bv be : Nat) (whoV : Value) (S0 : Nat → Prop) (k : Nat) : Prop := k = f ∨ S0 k ∨ k = bv ∨ k = be ∨ whoV.ownBlock = some k

def FM (w : World) (f : Nat) (S : Nat → Prop) (M : RM SV) (pv : Int → Option Nat) (pe : Int → Option (Nat × Nat)) (who : List Tok) (free : List Nat) : Prop :=
  ∃ g bv be whoV S0, FMX w f g bv be whoV S0 M pv pe who free ∧ ∀ k, ownF f bv be whoV S0 k ↔ S k

/-- What was turned, and which blocks are one's own behind it. -/
def Step (S : Nat → Prop) (w : World) (S' : Nat → Prop) (w' : World) : Prop := Mod S w w' ∧ ∀ k, S' k → S k ∨ w.heap.size ≤ k

def FTX (w : World) (f g bv be : Nat) (S : Nat → Prop) (w' : World) (M : RM SV) (pv : Int → Option Nat) (pe : Int → Option (Nat × Nat)) (who : List Tok) (free : List Nat) : Prop :=
  ∃ whoV S0, FMX w' f g bv be whoV S0 M pv pe who free ∧ Step S w (ownF f bv be whoV S0) w'

def FTurn (w : World) (f : Nat) (S : Nat → Prop) (w' : World) (M : RM SV) (pv : Int → Option Nat) (pe : Int → Option (Nat × Nat)) (who : List Tok) (free : List Nat) : Prop :=
  ∃ S', FM w' f S' M pv pe who free ∧ Mod S w w' ∧ ∀ k, S' k → S k ∨ w.heap.size ≤ k

section

variable {w w' : World} {f g bv be : Nat} {whoV : Value} {S0 S S1 : Nat → Prop} {M M' M2 : RM SV} {pv pv' : Int → Option Nat} {pe pe' : Int → Option (Nat × Nat)} {who who' : List Tok} {free free' : List Nat}

theorem FMX.whoNe (h : FMX w f g bv be whoV S0 M pv pe who free) {k : Nat} (hk : whoV.ownBlock = some k) : k ≠ f ∧ ¬ S0 k ∧ k ≠ bv ∧ k ≠ be := by
  obtain ⟨cs, hb⟩ := h.at_.who.blk hk
  refine ⟨fun e => ?_, h.at_.rope.other hb (by decide) (by decide) (by decide) (by decide), fun e => h.at_.verts.notBlk hb e.symm, fun e => h.at_.edges.notBlk hb e.symm⟩
  subst e; exact hb.ne_ h.at_.blk (by decide) rfl

theorem FMX.fNe (h : FMX w f g bv be whoV S0 M pv pe who free) : ¬ S0 f ∧ bv ≠ f ∧ be ≠ f ∧ whoV.ownBlock ≠ some f :=
  ⟨h.at_.rope.other h.at_.blk (by decide) (by decide) (by decide) (by decide), h.at_.verts.notBlk h.at_.blk, h.at_.edges.notBlk h.at_.blk, fun e => (h.whoNe e).1 rfl⟩

theorem FMX.lt (h : FMX w f g bv be whoV S0 M pv pe who free) {k : Nat} (hk : ownF f bv be whoV S0 k) : k < w.heap.size := by
  rcases hk with rfl | hk | rfl | rfl | hk
  · exact h.at_.blk.lt
  · exact h.at_.rope.lt hk
  · exact h.at_.verts.lt
  · exact h.at_.edges.lt
  · exact (h.at_.who.lt k hk).2

/-- Nothing of the forest turns. -/
theorem FMX.frame (h : FMX w f g bv be whoV S0 M pv pe who free) {T : Nat → Prop} (hm : Mod T w w') (hd : ∀ k, ownF f bv be whoV S0 k → ¬ T k) : FMX w' f g bv be whoV S0 M pv pe who free :=
  ⟨⟨h.at_.blk.mod hm (hd f (.inl rfl)), h.at_.rope.frame hm fun k hk => hd k (.inr (.inl hk)), h.at_.verts.mod hm (hd bv (.inr (.inr (.inl rfl)))), h.at_.edges.mod hm (hd be (.inr (.inr (.inr (.inl rfl))))),
    h.at_.who.same fun b hb => hm.block b (h.at_.who.lt b hb).2 (hd b (.inr (.inr (.inr (.inr hb)))))⟩, h.ne⟩

theorem FMX.below (h : FMX w f g bv be whoV S0 M pv pe who free) (hb : Below w.heap.size w w') : FMX w' f g bv be whoV S0 M pv pe who free := h.frame (T := fun _ => False) (Mod.of_below hb _) fun _ _ e => e

/-- The walks turn. -/
theorem FMX.rope (h : FMX w f g bv be whoV S0 M pv pe who free) (t : WTurn w g S0 M' free' w') : ∃ S1, FMX w' f g bv be whoV S1 M' pv pe who free' ∧ Mod S0 w w' ∧ ∀ k, S1 k → S0 k ∨ w.heap.size ≤ k := by
  obtain ⟨S1, r1, m1, n1⟩ := t
  exact ⟨S1, ⟨⟨h.at_.blk.mod m1 h.fNe.1, r1, h.at_.verts.mod m1 (h.at_.rope.notMap h.at_.verts), h.at_.edges.mod m1 (h.at_.rope.notMap h.at_.edges), h.at_.who.same fun b hb => m1.block b (h.at_.who.lt b hb).2 (h.whoNe hb).2.1⟩, h.ne⟩, m1, n1⟩

theorem FMX.fm (h : FMX w f g bv be whoV S0 M pv pe who free) : FM w f (ownF f bv be whoV S0) M pv pe who free := ⟨g, bv, be, whoV, S0, h, fun _ => Iff.rfl⟩

/-- One forest's turn, said of its parts. -/
theorem FMX.turn (h : FMX w f g bv be whoV S0 M pv pe who free) (hS : ∀ k, ownF f bv be whoV S0 k ↔ S k) {whoV' : Value} (h' : FMX w' f g bv be whoV' S1 M' pv' pe' who' free') (hm : Mod (ownF f bv be whoV S0) w w') (hs : ∀ k, S1 k → S0 k ∨ w.heap.size ≤ k)
    (hw : ∀ k, whoV'.ownBlock = some k → whoV.ownBlock = some k ∨ w.heap.size ≤ k) : FTX w f g bv be S w' M' pv' pe' who' free' := by
  refine ⟨_, _, h', hm.mono fun k _ hk => (hS k).1 hk, fun k hk => ?_⟩
  rcases hk with e | hk | e | e | hk
  · exact .inl ((hS k).1 (.inl e))
  · exact (hs k hk).imp (fun e => (hS k).1 (.inr (.inl e))) id
  · exact .inl ((hS k).1 (.inr (.inr (.inl e))))
  · exact .inl ((hS k).1 (.inr (.inr (.inr (.inl e)))))
  · exact (hw k hk).imp (fun e => (hS k).1 (.inr (.inr (.inr (.inr e))))) id

theorem FTX.fturn (h : FTX w f g bv be S w' M pv pe who free) : FTurn w f S w' M pv pe who free := by
  obtain ⟨whoV, S0, h1, h2, h3⟩ := h
  exact ⟨_, h1.fm, h2, h3⟩

theorem FTurn.same (h : FM w f S M pv pe who free) (hb : Below w.heap.size w w') : FTurn w f S w' M pv pe who free := by
  obtain ⟨g, bv, be, whoV, S0, hX, hS⟩ := h
  exact (hX.turn hS (hX.below hb) (Mod.of_below hb _) (fun k hk => .inl hk) (fun k hk => .inl hk)).fturn

theorem FTurn.trans {w1 : World} {S1' : Nat → Prop} (h : Mod S w w1) (hs : ∀ k, S1' k → S k ∨ w.heap.size ≤ k) (h' : FTurn w1 f S1' w' M' pv' pe' who' free') : FTurn w f S w' M' pv' pe' who' free' := by
  obtain ⟨S2, r2, m2, n2⟩ := h'
  refine ⟨S2, r2, h.trans m2 (fun k hk e => (hs k e).resolve_right (by omega)), fun k hk => ?_⟩
  rcases n2 k hk with e | e
  · exact hs k e
  · exact .inr (Nat.le_trans h.size e)

theorem FM.below (h : FM w f S M pv pe who free) (hb : Below w.heap.size w w') : FM w' f S M pv pe who free := by
  obtain ⟨g, bv, be, whoV, S0, hX, hS⟩ := h
  exact ⟨g, bv, be, whoV, S0, hX.below hb, hS⟩

theorem FM.lt (h : FM w f S M pv pe who free) {k : Nat} (hk : S k) : k < w.heap.size := by
  obtain ⟨g, bv, be, whoV, S0, hX, hS⟩ := h
  exact hX.lt ((hS k).2 hk)

theorem FM.frame (h : FM w f S M pv pe who free) {T : Nat → Prop} (hm : Mod T w w') (hd : ∀ k, S k → ¬ T k) : FM w' f S M pv pe who free := by
  obtain ⟨g, bv, be, whoV, S0, hX, hS⟩ := h
  exact ⟨g, bv, be, whoV, S0, hX.frame hm fun k hk => hd k ((hS k).1 hk), hS⟩

/-- The owners' row is another one from now on. -/
theorem FMX.setWho (h : FMX w f g bv be whoV S0 M pv pe who free) {whoV' : Value} (ho : OK encTk 2 85 w' 0 whoV' who') (hg : w.grownBy w' whoV.ownBlock) :
    FMX (w'.setCell ⟨f, 3, none⟩ whoV') f g bv be whoV' S0 M pv pe who' free ∧ Mod (ownF f bv be whoV S0) w (w'.setCell ⟨f, 3, none⟩ whoV') := by
  have m1 : Mod (fun k => some k = whoV.ownBlock) w w' := Mod.of_grown hg
  have fne := h.fNe
  have hbf : Blk w' f _ _ := h.at_.blk.mod m1 (fun e => fne.2.2.2 e.symm)
  have m2 : Mod (fun k => k = f) w' (w'.setCell ⟨f, 3, none⟩ whoV') := (Mod.refl (fun k => k = f) _).setCell (p := ⟨f, 3, none⟩) (fun _ => rfl) _
  have nf : whoV'.ownBlock ≠ some f := fun e => by
    obtain ⟨cs, hb⟩ := ho.blk e
    exact hb.ne_ hbf (by decide) rfl
  refine ⟨⟨⟨?_, ?_, ?_, ?_, ?_⟩, h.ne⟩, ?_⟩
  · exact hbf.set_ 3 whoV'
  · exact (h.at_.rope.frame m1 fun k hk e => (h.whoNe e.symm).2.1 hk).frame m2 fun k hk e => fne.1 (e ▸ hk)
  · exact (h.at_.verts.mod m1 fun e => (h.whoNe e.symm).2.2.1 rfl).mod m2 fun e => fne.2.1 e
  · exact (h.at_.edges.mod m1 fun e => (h.whoNe e.symm).2.2.2 rfl).mod m2 fun e => fne.2.2.1 e
  · exact ho.same fun b hb => m2.block b (ho.lt b hb).2 (fun e => nf (e ▸ hb))
  · exact (m1.mono fun k _ e => .inr (.inr (.inr (.inr e.symm)))).setCell (p := ⟨f, 3, none⟩) (fun _ => .inl rfl) _

theorem Step.trans {S2 : Nat → Prop} {w1 : World} (h : Step S w S1 w1) (h' : Step S1 w1 S2 w') : Step S w S2 w' :=
  ⟨h.1.trans h'.1 (fun k hk e => (h.2 k e).resolve_right (by omega)), fun k hk => by
    rcases h'.2 k hk with e | e
    · exact h.2 k e
    · exact .inr (Nat.le_trans h.1.size e)⟩

theorem Step.below (S : Nat → Prop) (hb : Below w.heap.size w w') : Step S w S w' := ⟨Mod.of_below hb S, fun k hk => .inl hk⟩

theorem Step.same (hm : Mod S w w') : Step S w S w' := ⟨hm, fun k hk => .inl hk⟩

theorem FMX.ftx (h : FMX w' f g bv be whoV S1 M pv pe who free) (hs : Step S w (ownF f bv be whoV S1) w') : FTX w f g bv be S w' M pv pe who free := ⟨_, _, h, hs⟩

theorem FMX.fturn (h : FMX w' f g bv be whoV S1 M pv pe who free) (hs : Step S w (ownF f bv be whoV S1) w') : FTurn w f S w' M pv pe who free := ⟨_, h.fm, hs.1, hs.2⟩

theorem Step.iff {S2 : Nat → Prop} (h : Step S1 w S2 w') (e : ∀ k, S1 k ↔ S k) : Step S w S2 w' := ⟨h.1.mono fun k _ hk => (e k).1 hk, fun k hk => (h.2 k hk).imp (e k).1 id⟩

theorem FMX.ropeS (h : FMX w f g bv be whoV S0 M pv pe who free) (t : WTurn w g S0 M' free' w') : ∃ S1, FMX w' f g bv be whoV S1 M' pv pe who free' ∧ Step (ownF f bv be whoV S0) w (ownF f bv be whoV S1) w' := by
  obtain ⟨S1, x, m, n⟩ := h.rope t
  refine ⟨S1, x, m.mono fun k _ hk => .inr (.inl hk), fun k hk => ?_⟩
  rcases hk with e | hk | e | e | hk
  · exact .inl (.inl e)
  · exact (n k hk).imp (fun e => .inr (.inl e)) id
  · exact .inl (.inr (.inr (.inl e)))
  · exact .inl (.inr (.inr (.inr (.inl e))))
  · exact .inl (.inr (.inr (.inr (.inr hk))))

theorem FMX.setWhoS (h : FMX w f g bv be whoV S0 M pv pe who free) {whoV' : Value} (ho : OK encTk 2 85 w' 0 whoV' who') (hg : w.grownBy w' whoV.ownBlock) (hw : ∀ k, whoV'.ownBlock = some k → w.heap.size ≤ k ∨ whoV.ownBlock = some k) :
    FMX (w'.setCell ⟨f, 3, none⟩ whoV') f g bv be whoV' S0 M pv pe who' free ∧ Step (ownF f bv be whoV S0) w (ownF f bv be whoV' S0) (w'.setCell ⟨f, 3, none⟩ whoV') := by
  obtain ⟨x, m⟩ := h.setWho ho hg
  refine ⟨x, m, fun k hk => ?_⟩
  rcases hk with e | hk | e | e | hk
  · exact .inl (.inl e)
  · exact .inl (.inr (.inl hk))
  · exact .inl (.inr (.inr (.inl e)))
  · exact .inl (.inr (.inr (.inr (.inl e))))
  · rcases hw k hk with e | e
    · exact .inr e
    · exact .inl (.inr (.inr (.inr (.inr e))))

/-- One element of a row of one's own is written over. -/
theorem OK.setTok {B b n c a : Nat} {xs : List Tok} (h : OK encTk 2 85 w B (.slice (some ⟨b, 0, none⟩) n c) xs) (ha : a < xs.length) (t : Tok) :
    OK encTk 2 85 ((w.setCell ⟨b, a * 2, none⟩ (.bool t.1)).setCell ⟨b, a * 2 + 1, none⟩ (.int .i64 t.2)) B (.slice (some ⟨b, 0, none⟩) n c) (xs.set a t) := by
  obtain ⟨x, hx⟩ : ∃ x, xs[a]? = some x := ⟨_, List.getElem?_eq_getElem ha⟩
  have h1 := h.setK encTk_len hx (j := 0) (by decide) (x' := (t.1, x.2)) (u := .bool t.1) rfl
  have h2 := h1.setK encTk_len (i := a) (x := (t.1, x.2)) (by rw [List.getElem?_set_self ha]) (j := 1) (by decide) (x' := t) (u := .int .i64 t.2) rfl
  rw [List.set_set] at h2
  exact h2

theorem FMX.putWho {b n c a : Nat} (h : FMX w f g bv be (.slice (some ⟨b, 0, none⟩) n c) S0 M pv pe who free) (ha : a < who.length) (t : Tok) :
    FMX ((w.setCell ⟨b, a * 2, none⟩ (.bool t.1)).setCell ⟨b, a * 2 + 1, none⟩ (.int .i64 t.2)) f g bv be (.slice (some ⟨b, 0, none⟩) n c) S0 M pv pe (who.set a t) free ∧
      Mod (ownF f bv be (.slice (some ⟨b, 0, none⟩) n c) S0) w ((w.setCell ⟨b, a * 2, none⟩ (.bool t.1)).setCell ⟨b, a * 2 + 1, none⟩ (.int .i64 t.2)) := by
  obtain ⟨n1, n2, n3, n4⟩ := h.whoNe (k := b) rfl
  have m1 : Mod (fun k => k = b) w ((w.setCell ⟨b, a * 2, none⟩ (.bool t.1)).setCell ⟨b, a * 2 + 1, none⟩ (.int .i64 t.2)) := ((Mod.refl (fun k => k = b) _).setCell (p := ⟨b, a * 2, none⟩) (fun _ => rfl) _).setCell (p := ⟨b, a * 2 + 1, none⟩) (fun _ => rfl) _
  refine ⟨⟨⟨h.at_.blk.mod m1 (fun e => n1 e.symm), h.at_.rope.frame m1 fun k hk e => n2 (e ▸ hk), h.at_.verts.mod m1 (fun e => n3 e.symm), h.at_.edges.mod m1 (fun e => n4 e.symm), h.at_.who.setTok ha t⟩, h.ne⟩, m1.mono fun k _ e => .inr (.inr (.inr (.inr (by rw [e]; rfl))))⟩

/-- A map turns. -/
theorem FMX.setV (h : FMX w f g bv be whoV S0 M pv pe who free) {fv : Int → Option Nat} (ht : w.mapTurned w' bv) (hM : MapG kI pN w' bv 4096 (fun i : Int => (fv i).map fun a => .int .i64 (a : Int))) :
    FMX w' f g bv be whoV S0 M fv pe who free ∧ Mod (ownF f bv be whoV S0) w w' := by
  have m1 : Mod (fun k => k = bv) w w' := (Mod.refl (fun k => k = bv) _).turned ht fun _ => rfl
  refine ⟨⟨⟨h.at_.blk.mod m1 (fun e => h.fNe.2.1 e.symm), h.at_.rope.frame m1 fun k hk e => h.at_.rope.notMap h.at_.verts (e ▸ hk), hM, h.at_.edges.mod m1 (fun e => h.ne e.symm), h.at_.who.same fun k hk => m1.block k (h.at_.who.lt k hk).2 (h.whoNe hk).2.2.1⟩, h.ne⟩, m1.mono fun k _ e => .inr (.inr (.inl e))⟩

theorem FMX.setE (h : FMX w f g bv be whoV S0 M pv pe who free) {fe : Int → Option (Nat × Nat)} (ht : w.mapTurned w' be) (hM : MapG kI pP w' be 4096 (fun i : Int => (fe i).map fun x => .agg #[.int .i64 (x.1 : Int), .int .i64 (x.2 : Int)])) :
    FMX w' f g bv be whoV S0 M pv fe who free ∧ Mod (ownF f bv be whoV S0) w w' := by
  have m1 : Mod (fun k => k = be) w w' := (Mod.refl (fun k => k = be) _).turned ht fun _ => rfl
  refine ⟨⟨⟨h.at_.blk.mod m1 (fun e => h.fNe.2.2.1 e.symm), h.at_.rope.frame m1 fun k hk e => h.at_.rope.notMap h.at_.edges (e ▸ hk), h.at_.verts.mod m1 (fun e => h.ne e), hM, h.at_.who.same fun k hk => m1.block k (h.at_.who.lt k hk).2 (h.whoNe hk).2.2.2⟩, h.ne⟩, m1.mono fun k _ e => .inr (.inr (.inr (.inl e)))⟩

end

end Go.Proofs.Ytlakcldgolpaiaa

/-
  The walks of Give and of give.
-/
namespace Go.Proofs.Ytlakcldgolpaiaa
open Go.RowKit Go.Maps
set_option linter.unusedVariables false

theorem etI : ElemT 22 3 1 8 := elemT_of (z := .int .i64 0) Try.underlying22 (by kernel_rfl) (by kernel_rfl) (by decide) (by decide) (by decide)

theorem etTk : ElemT 71 85 2 16 := elemT_of (z := .agg #[.bool false, .int .i64 0]) Try.underlying71 (by kernel_rfl) (by kernel_rfl) (by decide) (by decide) (by decide)

theorem OK.shape {α : Type} {enc : α → List Value} {k E : Nat} {w : World} {B : Nat} {v : Value} {xs : List α} (h : OK enc k E w B v xs) (hl : 0 < xs.length) : ∃ b c, v = .slice (some ⟨b, 0, none⟩) xs.length c ∧ xs.length ≤ c ∧ c ≤ 9223372036854775807 := by
  rcases h.2.2 with ⟨e, h0⟩ | ⟨q, c, cur, e, _, _, h1, h2, _⟩
  · omega
  · exact ⟨q, c, e, h1, by simpa [maxLen] using h2⟩

theorem tok_get {who : List Tok} {a : Nat} (ha : a < who.length) : who[a]? = some (tok who a) := by
  unfold tok
  rw [List.getD_eq_getElem?_getD, List.getElem?_eq_getElem ha]
  rfl

section

variable {w : World} {f : Nat} {S : Nat → Prop} {M : RM SV} {pv : Int → Option Nat} {pe : Int → Option (Nat × Nat)} {who : List Tok} {free : List Nat}

/-- A free places' row that grew, laid into the walks. -/
theorem give_turn {w w2 : World} {k g : Nat} {freeV : Value} {S0 : Nat → Prop} (hX : WkX w k g freeV S0 M free) (hS : ∀ j, ownW k freeV S0 j ↔ S j) {a : Nat} {v' : Value} (h1 : OK encI 1 3 w2 0 v' (free.map natI ++ [(a : Int)])) (h2 : (w.alloc (.cells #[.int .i64 (a : Int)] 3)).grownBy w2 freeV.ownBlock) (h3 : v'.ownBlock = freeV.ownBlock ∨ v'.ownBlock = some (w.alloc (.cells #[.int .i64 (a : Int)] 3)).heap.size) : WTurn w k S M (free ++ [a]) (w2.setCell ⟨k, 1, none⟩ v') := by
  have hG : w.grownBy w2 freeV.ownBlock := grownBy_trans (grownBy_below ((Below.refl _ _).alloc (Nat.le_refl _) _)) h2
  have hw : ∀ j, v'.ownBlock = some j → w.heap.size ≤ j ∨ freeV.ownBlock = some j := by
    intro j hj
    rcases h3 with e | e
    · right; rw [← e]; exact hj
    · left
      rw [e] at hj
      injection hj with hj
      simp at hj
      omega
  have hO : OK encI 1 3 w2 0 v' ((free ++ [a]).map natI) := by
    rw [List.map_append]
    exact h1
  obtain ⟨k1, k2⟩ := hX.setFree hO hG hw
  refine ⟨_, ⟨g, v', S0, k1, fun _ => Iff.rfl⟩, k2.mono fun j _ hj => (hS j).1 hj, fun j hj => ?_⟩
  rcases hj with e | hj | hj
  · exact .inl ((hS j).1 (.inl e))
  · exact .inl ((hS j).1 (.inr (.inl hj)))
  · rcases hw j hj with e | e
    · exact .inr e
    · exact .inl ((hS j).1 (.inr (.inr e)))

set_option maxRecDepth 100000 in
set_option maxHeartbeats 4000000 in
theorem wGive (w : World) (k : Nat) (S : Nat → Prop) (h : Wk w k S M free) (a : Nat) (hl : free.length + 1 ≤ 1000000) :
    Calls Try.prog 69 #[.pointer (some ⟨k, 0, none⟩), .int .i64 (a : Int)] w fun e w' => e = .returned (.tuple #[]) ∧ WTurn w k S M (free ++ [a]) w' := by
  obtain ⟨g, freeV, S0, hX, hS⟩ := h
  have b1 : w.cell? ⟨k, 1, none⟩ = some freeV := hX.blk.cell 1
  have F1 := Lib.hid hX.free
  have HL1 : Hid ((free.map natI).length + 1 ≤ 1000000) := Lib.hid (by simpa using hl)
  have HG : Hid (∀ w2, (w.alloc (.cells #[.int .i64 (a : Int)] 3)).grownBy w2 freeV.ownBlock → Blk w2 k 95 #[.pointer (some ⟨g, 0, none⟩), freeV]) := Lib.hid (fun w2 h2 => (hX.blk.alloc _).grown h2 (fun e => hX.kNe.2 e.symm))
  have HT : Hid (∀ w2 v', OK encI 1 3 w2 0 v' (free.map natI ++ [(a : Int)]) → (w.alloc (.cells #[.int .i64 (a : Int)] 3)).grownBy w2 freeV.ownBlock → (v'.ownBlock = freeV.ownBlock ∨ v'.ownBlock = some (w.alloc (.cells #[.int .i64 (a : Int)] 3)).heap.size) → WTurn w k S M (free ++ [a]) (w2.setCell ⟨k, 1, none⟩ v')) := Lib.hid (fun w2 v' h1 h2 h3 => give_turn hX hS h1 h2 h3)
  clear hX hS hl
  go_enter Try.func69, Try.ntmps69
  go_wp2_with (refine wpList_appE etI encI_len encI_one rfl (.tmp 8) (.tmp 10) rfl rfl (F1.out.alloc _) w.heap.size rfl (y := (a : Int)) (oneI w (a : Int) 3) HL1.out (by simp) ?_; intro v' w2 h1 h2 h3; have h2' : (w.alloc (.cells #[.int .i64 (a : Int)] 3)).grownBy w2 freeV.ownBlock := h2; have h3' : v'.ownBlock = freeV.ownBlock ∨ v'.ownBlock = some (w.alloc (.cells #[.int .i64 (a : Int)] 3)).heap.size := h3; have c4 := (HG.out w2 h2').cell 1; have c5 := (HG.out w2 h2').frozen 1; have TT := Lib.hid (HT.out w2 v' h1 h2' h3'); obtain ⟨A2, c2, hv2, _, _, _, _⟩ := (h1.rk encI_len (Nat.le_refl _)).open_; obtain ⟨n2, hn2⟩ : ∃ n2, n2 = (free.map natI ++ [(a : Int)]).length := ⟨_, rfl⟩; rw [← hn2] at hv2; subst hv2; clear hn2 h1 h2 h3 h2' h3' b1)
  go_end0
  exact ⟨rfl, TT.out⟩

set_option maxRecDepth 100000 in
set_option maxHeartbeats 4000000 in
theorem give_any (w : World) {g bv be : Nat} {whoV : Value} {S0 : Nat → Prop} (hX : FMX w f g bv be whoV S0 M pv pe who free) (hS : ∀ k, ownF f bv be whoV S0 k ↔ S k) (a : Nat) (ha : a < who.length) (hl : free.length + 1 ≤ 1000000) :
    Calls Try.prog 48 #[.pointer (some ⟨f, 0, none⟩), .int .i64 (a : Int)] w fun e w' => e = .returned (.tuple #[]) ∧ FTX w f g bv be S w' M pv pe (who.set a (false, 0)) (free ++ [a]) := by
  obtain ⟨b, c, rfl, hc1, hc2⟩ := hX.at_.who.shape (by omega)
  obtain ⟨n, hn⟩ : ∃ n, n = who.length := ⟨_, rfl⟩
  have y0 : w.cell? ⟨b, a * 2, none⟩ = some (.bool (tok who a).1) := hX.at_.who.cellK encTk_len (j := 0) (tok_get ha) rfl
  have y1 : w.cell? ⟨b, a * 2 + 1, none⟩ = some (.int .i64 (tok who a).2) := hX.at_.who.cellK encTk_len (j := 1) (tok_get ha) rfl
  have z0 : w.frozen? ⟨b, a * 2, none⟩ = false := hX.at_.who.frozenK _
  have z1 : w.frozen? ⟨b, a * 2 + 1, none⟩ = false := hX.at_.who.frozenK _
  have hP := hX.putWho ha (false, 0)
  obtain ⟨W1, hW1⟩ : ∃ W1, W1 = (w.setCell ⟨b, a * 2, none⟩ (.bool false)).setCell ⟨b, a * 2 + 1, none⟩ (.int .i64 0) := ⟨_, rfl⟩
  rw [← hW1] at hP
  rw [← hn] at ha hP hc1
  have a3 : w.cell? ⟨f, 3, none⟩ = some (.slice (some ⟨b, 0, none⟩) who.length c) := hX.at_.blk.cell 3
  rw [← hn] at a3 hX hS
  have H1 := Lib.hid hP.1
  have M1 := Lib.hid hP.2
  have HS := Lib.hid hS
  have HW := Lib.hid hW1
  have ai : (a : Int) < (n : Int) := by omega
  have ni : a < n := ha
  have HL := Lib.hid hl
  clear hX hP hS hW1 hn ha hc1 hc2 hl
  go_enter Try.func48, Try.ntmps48
  go_upto_region 1 with fail
  rw [← HW.out]
  clear a3 y0 y1 z0 z1
  have b0 : W1.cell? ⟨f, 0, none⟩ = _ := H1.out.at_.blk.cell 0
  clear ai ni
  go_wp2_with fail
  refine (wGive W1 g S0 H1.out.at_.rope a HL.out).mono ?_
  rintro e w2 ⟨rfl, t2⟩
  have T2 := Lib.hid t2
  clear t2 b0
  go_wp2_with fail
  go_end0
  obtain ⟨S2, x2, s2⟩ := H1.out.ropeS T2.out
  exact ⟨rfl, x2.ftx (((Step.same M1.out).trans s2).iff HS.out)⟩

end

end Go.Proofs.Ytlakcldgolpaiaa

/-
  The walks of Take and of take.
-/
namespace Go.Proofs.Ytlakcldgolpaiaa
open Go.RowKit Go.Maps
set_option linter.unusedVariables false

section

variable {w : World} {f : Nat} {S : Nat → Prop} {M : RM SV} {pv : Int → Option Nat} {pe : Int → Option (Nat × Nat)} {who : List Tok} {free : List Nat}

def BoxT (f g p : Nat) (v : SV) (w : World) : Prop := w.cell? ⟨f, 0, none⟩ = some (.pointer (some ⟨g, 0, none⟩)) ∧ w.cell? ⟨p, 0, none⟩ = some (.int .i64 v.n) ∧ w.cell? ⟨p, 1, none⟩ = some (.int .i64 v.m) ∧ w.cell? ⟨p, 2, none⟩ = some (.int .i64 v.e)

theorem BoxT.all {f g p : Nat} {v : SV} {w : World} (h : BoxT f g p v w) : w.cell? ⟨f, 0, none⟩ = some (.pointer (some ⟨g, 0, none⟩)) ∧ w.cell? ⟨p, 0, none⟩ = some (.int .i64 v.n) ∧ w.cell? ⟨p, 1, none⟩ = some (.int .i64 v.m) ∧ w.cell? ⟨p, 2, none⟩ = some (.int .i64 v.e) := h

theorem boxT_of {f g p : Nat} {v : SV} {w : World} {t : TypeId} {cs : Array Value} (h0 : cs[0]? = some (.pointer (some ⟨g, 0, none⟩))) (h1 : Blk w f t cs) (h2 : Blk w p 68 #[.int .i64 v.n, .int .i64 v.m, .int .i64 v.e]) : BoxT f g p v w := ⟨(h1.cell 0).trans h0, h2.cell 0, h2.cell 1, h2.cell 2⟩

theorem oneTk (w : World) (y : Tok) : ∀ (j : Nat) u, (encTk y)[j]? = some u → (w.alloc (.cells #[.bool y.1, .int .i64 y.2] 85)).cell? ⟨w.heap.size, j, none⟩ = some u := by
  intro j u hu; rw [(Blk.new w _ _).cell j]; simpa [encTk] using hu

theorem OK.shrinkI {w : World} {B fb fc k : Nat} {xs : List Int} (h : OK encI 1 3 w B (.slice (some ⟨fb, 0, none⟩) (k + 1) fc) xs) : OK encI 1 3 w B (.slice (some ⟨fb, 0, none⟩) k fc) xs.dropLast := by
  obtain ⟨o1, o2, o3⟩ := h
  rcases o3 with ⟨e, _⟩ | ⟨q, c0, cur, e, r1, r2, r3, r4, r5, r6⟩
  · cases e
  · injection e with e1 e2 e3
    injection e1 with e1
    injection e1 with e1
    subst e1 e3
    have hl : xs.dropLast.length = k := by simp; omega
    refine ⟨by omega, by rw [flat_len encI_len], .inr ⟨fb, fc, cur, by rw [hl], r1, r2, by omega, r4, r5, ?_⟩⟩
    have hne : xs ≠ [] := by rintro rfl; simp at e2
    have hx : xs = xs.dropLast ++ [xs.getLast hne] := (List.dropLast_concat_getLast hne).symm
    have e9 : (cur.toList.take (xs.length * 1)).take k = cur.toList.take k := by rw [List.take_take]; congr 1; omega
    rw [hl, Nat.mul_one, ← e9, r6]
    conv => lhs; rw [hx]
    rw [List.flatMap_append, List.take_append_of_le_length (by rw [flat_len encI_len]; omega), List.take_of_length_le (by rw [flat_len encI_len]; omega)]

set_option maxRecDepth 100000 in
set_option maxHeartbeats 4000000 in
theorem wTake_none (w : World) (k : Nat) (S : Nat → Prop) (h : Wk w k S M []) (hown : M.own.length ≤ 6200) (v : SV) :
    Calls Try.prog 63 #[.pointer (some ⟨k, 0, none⟩), v.v] w fun e w' => e = .returned (.int .i64 ((M.own.length + 1 : Nat) : Int)) ∧ WTurn w k S (M.make v) [] w' := by
  obtain ⟨g, freeV, S0, hX, hS⟩ := h
  obtain ⟨A4, c4, hfv, -, -, -, -⟩ := (hX.free.rk encI_len (Nat.le_refl _)).open_
  simp only [List.map_nil, List.length_nil] at hfv
  subst hfv
  obtain ⟨p, hp⟩ : ∃ p, p = w.heap.size := ⟨_, rfl⟩
  obtain ⟨W, hW⟩ : ∃ W, W = w.alloc (.cells #[.int .i64 v.n, .int .i64 v.m, .int .i64 v.e] 68) := ⟨_, rfl⟩
  have hb : Below w.heap.size w W := by rw [hW]; exact (Below.refl _ _).alloc (Nat.le_refl _) _
  have kq : Blk W p 68 #[.int .i64 v.n, .int .i64 v.m, .int .i64 v.e] := by rw [hW, hp]; exact Blk.new _ _ _
  have H1 := Lib.hid (hX.below hb)
  have HS := Lib.hid hS
  have KQ := Lib.hid kq
  have HB := Lib.hid hb
  have HW := Lib.hid hW
  have HP := Lib.hid hp
  have HO := Lib.hid hown
  clear hX hS kq hb hW hp hown
  change Calls Try.prog _ #[.pointer (some ⟨k, 0, none⟩), .agg #[.int .i64 v.n, .int .i64 v.m, .int .i64 v.e]] w _
  go_enter Try.func63, Try.ntmps63
  go_upto_region 1 with fail
  rw [← HW.out]
  try simp only [← HP.out]
  have a4 : W.cell? ⟨k, 1, none⟩ = some (.slice A4 0 c4) := H1.out.blk.cell 1
  go_wp2_with fail
  clear a4
  have X2 := boxT_of rfl H1.out.blk KQ.out
  have HX2 := Lib.hid X2
  obtain ⟨q0, q1, q2, q3⟩ := X2
  have HD2 : Hid (BoxT k g p v W.drew) := Lib.hid HX2.out
  have HM : Hid (M.makeA v = M.make v ∧ M.makeN = ((M.own.length + 1 : Nat) : Int) ∧ M.makeE = 0) := Lib.hid (by
    have := HO.out
    refine ⟨by unfold RM.makeA; rw [if_pos (by omega)], ?_, by unfold RM.makeE; rw [if_pos (by omega)]⟩
    unfold RM.makeN; rw [if_pos (by omega)]; push_cast; rfl)
  have RD2 := Lib.hid (H1.out.rope.below ((Below.refl _ _).drew))
  go_region_held3 (fun w' => w'.cell? ⟨k, 0, none⟩ = some (.pointer (some ⟨g, 0, none⟩)) ∧ w'.cell? ⟨p, 0, none⟩ = some (.int .i64 v.n) ∧ w'.cell? ⟨p, 1, none⟩ = some (.int .i64 v.m) ∧ w'.cell? ⟨p, 2, none⟩ = some (.int .i64 v.e)) (first | with_reducible exact HD2.out.all | with_reducible exact HC2.out.all | fail)
    ((go_at_call 79; refine (rMake _ g S0 M RD2.out v).mono ?_; rw [HM.out.1, HM.out.2.1, HM.out.2.2]; rintro e w3 ⟨rfl, t3⟩; have T3 := Lib.hid t3; obtain ⟨S3, r3, m3, n3⟩ := t3; have F3 := Lib.hid ((H1.out.blk.drew).mod m3 (RD2.out.other H1.out.blk.drew (by decide) (by decide) (by decide))); have B3 := Lib.hid (KQ.out.drew.mod m3 (RD2.out.other KQ.out.drew (by decide) (by decide) (by decide))); have HC2 : Hid (BoxT k g p v w3) := Lib.hid (boxT_of rfl F3.out B3.out); clear r3 m3 n3))
  clear q0 q1 q2 q3
  go_wp2_with fail
  go_ret
  exact ⟨by push_cast; rfl, WTurn.behind (HB.out.drew) ((H1.out.below ((Below.refl _ _).drew)).turn HS.out T3.out)⟩

set_option maxRecDepth 100000 in
set_option maxHeartbeats 4000000 in
theorem wTake_some (w : World) (k : Nat) (S : Nat → Prop) (h : Wk w k S M free) (hf : free ≠ []) (hfl : free.length ≤ 6200) (v : SV) (hk : 1 ≤ free.getLastD 0 ∧ free.getLastD 0 ≤ M.own.length) :
    Calls Try.prog 63 #[.pointer (some ⟨k, 0, none⟩), v.v] w fun e w' => e = .returned (.int .i64 (free.getLastD 0 : Nat)) ∧ WTurn w k S (M.set (free.getLastD 0) v) free.dropLast w' := by
  obtain ⟨g, freeV, S0, hX, hS⟩ := h
  have hfl0 : 0 < free.length := List.length_pos_iff.2 hf
  obtain ⟨fb, fc, hfv, hd1, hd2⟩ := hX.free.shape (by simpa using hfl0)
  obtain ⟨j, hkl⟩ : ∃ j, free.length = j + 1 := ⟨free.length - 1, by omega⟩
  have hml : (free.map natI).length = j + 1 := by simpa using hkl
  rw [hml] at hfv hd1
  subst hfv
  obtain ⟨a, ha⟩ : ∃ a, a = free.getLastD 0 := ⟨_, rfl⟩
  have hfa : free = free.dropLast ++ [a] := by
    have h1 := (List.dropLast_concat_getLast hf).symm
    have h2 : free.getLastD 0 = free.getLast hf := by rw [List.getLastD_eq_getLast?, List.getLast?_eq_some_getLast hf]; rfl
    rw [ha, h2]; exact h1
  have hgl : (free.map natI)[j]? = some (a : Int) := by
    rw [List.getElem?_map, hfa, List.getElem?_append_right (by simp; omega)]
    simp [hkl, natI]
  have hcl : w.cell? ⟨fb, j, none⟩ = some (.int .i64 (a : Int)) := by
    have := hX.free.cellK encI_len (j := 0) hgl rfl
    simpa using this
  rw [← ha] at hk ⊢
  have hsh : OK encI 1 3 w 0 (.slice (some ⟨fb, 0, none⟩) j fc) (free.dropLast.map natI) := by
    have := hX.free.shrinkI
    rwa [← List.map_dropLast] at this
  obtain ⟨p, hp⟩ : ∃ p, p = w.heap.size := ⟨_, rfl⟩
  obtain ⟨W, hW⟩ : ∃ W, W = w.alloc (.cells #[.int .i64 v.n, .int .i64 v.m, .int .i64 v.e] 68) := ⟨_, rfl⟩
  have hb : Below w.heap.size w W := by rw [hW]; exact (Below.refl _ _).alloc (Nat.le_refl _) _
  have kq : Blk W p 68 #[.int .i64 v.n, .int .i64 v.m, .int .i64 v.e] := by rw [hW, hp]; exact Blk.new _ _ _
  have h1 := hX.below hb
  have hcl1 : W.cell? ⟨fb, j, none⟩ = some (.int .i64 (a : Int)) := (hb.cell (p := ⟨fb, j, none⟩) (hX.free.lt fb rfl).2).trans hcl
  obtain ⟨W2, hW2⟩ : ∃ W2, W2 = W.setCell ⟨k, 1, none⟩ (.slice (some ⟨fb, 0, none⟩) j fc) := ⟨_, rfl⟩
  have hx2 := h1.setFree (free' := free.dropLast) (hsh.below hb) (⟨rfl, rfl, rfl, Nat.le_refl _, fun _ _ _ => rfl⟩ : W.grownBy W (Value.slice (some ⟨fb, 0, none⟩) (j + 1) fc).ownBlock) (fun i hi => .inr hi)
  rw [← hW2] at hx2
  have hne2 : p ≠ k := fun e => kq.ne_ h1.blk (by decide) e
  have kq2 : Blk W2 p 68 #[.int .i64 v.n, .int .i64 v.m, .int .i64 v.e] := by rw [hW2]; exact kq.far (p := ⟨k, 1, none⟩) hne2 _
  have HST : Hid (∀ w', WTurn W2.drew k (ownW k (.slice (some ⟨fb, 0, none⟩) j fc) S0) (M.set a v) free.dropLast w' → WTurn w k S (M.set a v) free.dropLast w') := Lib.hid (by
    rintro w' ⟨S5, r5, m5, n5⟩
    have m6 : Mod S W2 w' := (Mod.of_below ((Below.refl _ _).drew) S).trans m5 (fun i _ hi => (hS i).1 hi)
    have m7 : Mod S w W2 := (Mod.of_below hb S).trans' (hx2.2.mono fun i _ hi => (hS i).1 hi)
    refine ⟨S5, r5, m7.trans' m6, fun i hi => ?_⟩
    rcases n5 i hi with e | e
    · exact .inl ((hS i).1 e)
    · exact .inr (Nat.le_trans m7.size e))
  have H1 := Lib.hid h1
  have H2 := Lib.hid hx2.1
  have KQ := Lib.hid kq2
  have HW := Lib.hid hW
  have HW2 := Lib.hid hW2
  have HP := Lib.hid hp
  have HK := Lib.hid hk
  have hk1 : j ≤ 6200 := by omega
  have d0 : ((j : Int) + 1 == 0) = false := by simp; omega
  have d1 : IntKind.i64.wrap (j : Int) = (j : Int) := by rw [IntKind.wrap_i64]; omega
  have d2 : (j : Int) < (j : Int) + 1 := by omega
  have d3 : (j : Int) ≤ (fc : Int) := by omega
  have d4 : j ≤ fc := by omega
  clear hX hS hf hfl hk hfl0 hd1 hd2 hkl hml ha hfa hgl hcl hsh hp hW hb kq h1 hW2 hx2 hne2 kq2 hk1
  change Calls Try.prog _ #[.pointer (some ⟨k, 0, none⟩), .agg #[.int .i64 v.n, .int .i64 v.m, .int .i64 v.e]] w _
  go_enter Try.func63, Try.ntmps63
  go_upto_region 1 with fail
  rw [← HW.out]
  try simp only [← HP.out]
  have a4 : W.cell? ⟨k, 1, none⟩ = some (.slice (some ⟨fb, 0, none⟩) (j + 1) fc) := H1.out.blk.cell 1
  have z4 : W.frozen? ⟨k, 1, none⟩ = false := H1.out.blk.frozen 1
  go_upto_region 7 with fail
  rw [← HW2.out]
  clear a4 z4 hcl1 d0 d1 d2 d3 d4
  have X2 := boxT_of rfl H2.out.blk KQ.out
  have HX2 := Lib.hid X2
  obtain ⟨q0, q1, q2, q3⟩ := X2
  have HD2 : Hid (BoxT k g p v W2.drew) := Lib.hid HX2.out
  have HM : Hid (M.setA (a : Int) v = M.set a v ∧ M.errA (a : Int) = 0) := Lib.hid (by
    have hk := known_of (M := M) HK.out
    refine ⟨by unfold RM.setA; rw [if_pos hk, Int.toNat_natCast], by unfold RM.errA; rw [if_pos hk]⟩)
  have RD2 := Lib.hid (H2.out.rope.below ((Below.refl _ _).drew))
  go_wp2_with fail
  go_region_held3 (fun w' => w'.cell? ⟨k, 0, none⟩ = some (.pointer (some ⟨g, 0, none⟩)) ∧ w'.cell? ⟨p, 0, none⟩ = some (.int .i64 v.n) ∧ w'.cell? ⟨p, 1, none⟩ = some (.int .i64 v.m) ∧ w'.cell? ⟨p, 2, none⟩ = some (.int .i64 v.e)) (first | with_reducible exact HD2.out.all | with_reducible exact HC2.out.all | fail)
    ((go_at_call 51; refine (rSet _ g S0 M RD2.out (a : Int) v).mono ?_; rw [HM.out.1, HM.out.2]; rintro e w3 ⟨rfl, t3⟩; have T3 := Lib.hid t3; obtain ⟨S3, r3, m3, n3⟩ := t3; have F3 := Lib.hid ((H2.out.blk.drew).mod m3 (RD2.out.other H2.out.blk.drew (by decide) (by decide) (by decide))); have B3 := Lib.hid (KQ.out.drew.mod m3 (RD2.out.other KQ.out.drew (by decide) (by decide) (by decide))); have HC2 : Hid (BoxT k g p v w3) := Lib.hid (boxT_of rfl F3.out B3.out); clear r3 m3 n3))
  clear q0 q1 q2 q3
  go_wp2_with fail
  go_ret
  exact ⟨rfl, HST.out _ ((H2.out.below ((Below.refl _ _).drew)).turn (fun _ => Iff.rfl) T3.out)⟩

theorem wTake (w : World) (k : Nat) (S : Nat → Prop) (h : Wk w k S M free) (hown : M.own.length ≤ 6200) (hfl : free.length ≤ 6200) (v : SV) (hk : free ≠ [] → 1 ≤ free.getLastD 0 ∧ free.getLastD 0 ≤ M.own.length) :
    Calls Try.prog 63 #[.pointer (some ⟨k, 0, none⟩), v.v] w fun e w' => e = .returned (.int .i64 (takeN M.own.length free : Nat)) ∧ WTurn w k S (takeM M free v) free.dropLast w' := by
  by_cases hf : free = []
  · subst hf
    have e1 : takeM M [] v = M.make v := by unfold takeM; rw [if_pos rfl]
    have e2 : takeN M.own.length [] = M.own.length + 1 := by unfold takeN; rw [if_pos rfl]
    rw [e1, e2]
    exact wTake_none w k S h hown v
  · have e1 : takeM M free v = M.set (free.getLastD 0) v := by unfold takeM; rw [if_neg hf]
    have e2 : takeN M.own.length free = free.getLastD 0 := by unfold takeN; rw [if_neg hf]
    rw [e1, e2]
    exact wTake_some w k S h hf hfl v (hk hf)

theorem lone_flat : ∀ l : List Nat, (lone l).flatten.length = l.length
  | [] => rfl
  | x :: l => by show (x :: (lone l).flatten).length = _; rw [List.length_cons, lone_flat l, List.length_cons]

end

end Go.Proofs.Ytlakcldgolpaiaa

/-
  The walk of take.
-/
namespace Go.Proofs.Ytlakcldgolpaiaa
open Go.RowKit Go.Maps
set_option linter.unusedVariables false

section

variable {w : World} {f : Nat} {S : Nat → Prop} {M : RM SV} {pv : Int → Option Nat} {pe : Int → Option (Nat × Nat)} {who : List Tok} {free : List Nat}

set_option maxRecDepth 100000 in
set_option maxHeartbeats 4000000 in
theorem take_some (w : World) {g bv be : Nat} {whoV : Value} {S0 : Nat → Prop} (hX : FMX w f g bv be whoV S0 M pv pe who free) (hS : ∀ k, ownF f bv be whoV S0 k ↔ S k) (hlen : who.length = M.own.length + 1) (hown : M.own.length ≤ 6200) (hf : free ≠ []) (hfl : free.length ≤ 6200) (hk : 1 ≤ free.getLastD 0 ∧ free.getLastD 0 ≤ M.own.length) (t : Tok) (v : SV) :
    Calls Try.prog 45 #[.pointer (some ⟨f, 0, none⟩), .agg #[.bool t.1, .int .i64 t.2], v.v] w fun e w' => e = .returned (.int .i64 (free.getLastD 0 : Nat)) ∧ FTX w f g bv be S w' (M.set (free.getLastD 0) v) pv pe (who.set (free.getLastD 0) t) free.dropLast := by
  obtain ⟨b, c, hwv, hc1, hc2⟩ := hX.at_.who.shape (by omega)
  obtain ⟨n, hn⟩ : ∃ n, n = who.length := ⟨_, rfl⟩
  rw [← hn] at hwv hc1
  subst hwv
  obtain ⟨a, ha⟩ : ∃ a, a = free.getLastD 0 := ⟨_, rfl⟩
  obtain ⟨p, hp⟩ : ∃ p, p = w.heap.size := ⟨_, rfl⟩
  obtain ⟨W, hW⟩ : ∃ W, W = (w.alloc (.cells #[.bool t.1, .int .i64 t.2] 85)).alloc (.cells #[.int .i64 v.n, .int .i64 v.m, .int .i64 v.e] 68) := ⟨_, rfl⟩
  have hb : Below w.heap.size w W := by rw [hW]; exact ((Below.refl _ _).alloc (Nat.le_refl _) _).alloc (by simp) _
  have kp : Blk W p 85 #[.bool t.1, .int .i64 t.2] := by rw [hW, hp]; exact (Blk.new _ _ _).alloc _
  have kq : Blk W (p + 1) 68 #[.int .i64 v.n, .int .i64 v.m, .int .i64 v.e] := by
    rw [hW, hp]
    have := Blk.new (w.alloc (.cells #[.bool t.1, .int .i64 t.2] 85)) 68 #[.int .i64 v.n, .int .i64 v.m, .int .i64 v.e]
    simpa using this
  have h1 := hX.below hb
  have NPB : Hid (p ≠ b ∧ p ≠ f) := Lib.hid ⟨fun e => by have := (hX.at_.who.lt b rfl).2; omega, fun e => by have := hX.at_.blk.lt; omega⟩
  have H1 := Lib.hid h1
  have KP := Lib.hid kp
  have KQ := Lib.hid kq
  have HW := Lib.hid hW
  have HP := Lib.hid hp
  have HN := Lib.hid hlen
  have HNN := Lib.hid hn
  have HO := Lib.hid hown
  have ST := Lib.hid ((Step.below _ hb).iff hS)
  have NOW : Hid (∀ k, w.heap.size ≤ k → ¬ ownF f bv be (.slice (some ⟨b, 0, none⟩) n c) S0 k) := Lib.hid (fun k hk ho => by have := hX.lt ho; omega)
  have HCALL : Hid (∀ w1 S1, Wk w1 g S1 M free → Calls Try.prog 63 #[.pointer (some ⟨g, 0, none⟩), v.v] w1 fun e w' => e = .returned (.int .i64 (a : Nat)) ∧ WTurn w1 g S1 (M.set a v) free.dropLast w') := Lib.hid (fun w1 S1 h => by rw [ha]; exact wTake_some w1 g S1 h hf hfl v hk)
  have HA : Hid (a ≤ M.own.length) := Lib.hid (by rw [ha]; exact hk.2)
  rw [← ha]
  have al : a < n := by have := HA.out; omega
  have d0 : ((a : Int) == (n : Int)) = false := by simp; omega
  have d1 : (a == n) = false := by simp; omega
  clear hX hS hlen hown hf hfl hk hc1 hc2 hn ha hp hW hb kp kq h1
  change Calls Try.prog _ #[.pointer (some ⟨f, 0, none⟩), .agg #[.bool t.1, .int .i64 t.2], .agg #[.int .i64 v.n, .int .i64 v.m, .int .i64 v.e]] w _
  go_enter Try.func45, Try.ntmps45
  go_upto_region 1 with fail
  rw [← HW.out]
  try simp only [← HP.out]
  have X2 := boxT_of rfl H1.out.at_.blk KQ.out
  have HX2 := Lib.hid X2
  obtain ⟨q0, q1, q2, q3⟩ := X2
  go_wp2_with fail
  have HD2 : Hid (BoxT f g (p + 1) v W.drew) := Lib.hid HX2.out
  have HD := Lib.hid (H1.out.below ((Below.refl _ _).drew))
  go_region_held3 (fun w' => w'.cell? ⟨f, 0, none⟩ = some (.pointer (some ⟨g, 0, none⟩)) ∧ w'.cell? ⟨p + 1, 0, none⟩ = some (.int .i64 v.n) ∧ w'.cell? ⟨p + 1, 1, none⟩ = some (.int .i64 v.m) ∧ w'.cell? ⟨p + 1, 2, none⟩ = some (.int .i64 v.e)) (first | with_reducible exact HD2.out.all | with_reducible exact HC2.out.all | fail)
    ((go_at_call 63; refine (HCALL.out _ S0 HD.out.at_.rope).mono ?_; rintro e w3 ⟨rfl, t3⟩; obtain ⟨S4, x4, s4⟩ := HD.out.ropeS t3; have X3 := Lib.hid x4; have ST3 := Lib.hid ((ST.out.trans (Step.below _ ((Below.refl _ _).drew))).trans s4); have KP3 := Lib.hid (KP.out.drew.mod s4.1 (NOW.out p (by have := HP.out; omega))); have KQ3 := Lib.hid (KQ.out.drew.mod s4.1 (NOW.out (p + 1) (by have := HP.out; omega))); have HC2 : Hid (BoxT f g (p + 1) v w3) := Lib.hid (boxT_of rfl X3.out.at_.blk KQ3.out); clear x4 s4 t3))
  clear q0 q1 q2 q3
  have ai : (a : Int) < (n : Int) := by omega
  have a3 : w3.cell? ⟨f, 3, none⟩ = some (.slice (some ⟨b, 0, none⟩) n c) := X3.out.at_.blk.cell 3
  have k0 : w3.cell? ⟨p, 0, none⟩ = some (.bool t.1) := KP3.out.cell 0
  have k1 : w3.cell? ⟨p, 1, none⟩ = some (.int .i64 t.2) := KP3.out.cell 1
  have hal : a < who.length := by have := HNN.out; omega
  have y0 : w3.cell? ⟨b, a * 2, none⟩ = some (.bool (tok who a).1) := X3.out.at_.who.cellK encTk_len (j := 0) (tok_get hal) rfl
  have y1 : w3.cell? ⟨b, a * 2 + 1, none⟩ = some (.int .i64 (tok who a).2) := X3.out.at_.who.cellK encTk_len (j := 1) (tok_get hal) rfl
  have z0 : w3.frozen? ⟨b, a * 2, none⟩ = false := X3.out.at_.who.frozenK _
  have z1 : w3.frozen? ⟨b, a * 2 + 1, none⟩ = false := X3.out.at_.who.frozenK _
  have hP := X3.out.putWho hal t
  have HT : Hid (FTX w f g bv be S ((w3.setCell ⟨b, a * 2, none⟩ (.bool t.1)).setCell ⟨b, a * 2 + 1, none⟩ (.int .i64 t.2)).drew (M.set a v) pv pe (who.set a t) free.dropLast) := Lib.hid ((hP.1.below ((Below.refl _ _).drew)).ftx ((ST3.out.trans (Step.same hP.2)).trans (Step.below _ ((Below.refl _ _).drew))))
  clear hP hal
  go_wp2_with fail
  go_region
  all_goals (
    go_wp2_with fail
    go_ret
    exact ⟨rfl, HT.out⟩)

set_option maxRecDepth 100000 in
set_option maxHeartbeats 4000000 in
theorem take_none (w : World) {g bv be : Nat} {whoV : Value} {S0 : Nat → Prop} (hX : FMX w f g bv be whoV S0 M pv pe who []) (hS : ∀ k, ownF f bv be whoV S0 k ↔ S k) (hlen : who.length = M.own.length + 1) (hown : M.own.length ≤ 6200) (t : Tok) (v : SV) :
    Calls Try.prog 45 #[.pointer (some ⟨f, 0, none⟩), .agg #[.bool t.1, .int .i64 t.2], v.v] w fun e w' => e = .returned (.int .i64 (M.own.length + 1 : Nat)) ∧ FTX w f g bv be S w' (M.make v) pv pe (who ++ [t]) [] := by
  obtain ⟨b, c, hwv, hc1, hc2⟩ := hX.at_.who.shape (by omega)
  obtain ⟨n, hn⟩ : ∃ n, n = who.length := ⟨_, rfl⟩
  rw [← hn] at hwv hc1
  subst hwv
  obtain ⟨p, hp⟩ : ∃ p, p = w.heap.size := ⟨_, rfl⟩
  obtain ⟨W, hW⟩ : ∃ W, W = (w.alloc (.cells #[.bool t.1, .int .i64 t.2] 85)).alloc (.cells #[.int .i64 v.n, .int .i64 v.m, .int .i64 v.e] 68) := ⟨_, rfl⟩
  have hb : Below w.heap.size w W := by rw [hW]; exact ((Below.refl _ _).alloc (Nat.le_refl _) _).alloc (by simp) _
  have kp : Blk W p 85 #[.bool t.1, .int .i64 t.2] := by rw [hW, hp]; exact (Blk.new _ _ _).alloc _
  have kq : Blk W (p + 1) 68 #[.int .i64 v.n, .int .i64 v.m, .int .i64 v.e] := by
    rw [hW, hp]
    have := Blk.new (w.alloc (.cells #[.bool t.1, .int .i64 t.2] 85)) 68 #[.int .i64 v.n, .int .i64 v.m, .int .i64 v.e]
    simpa using this
  have h1 := hX.below hb
  have NPB : Hid (p ≠ b ∧ p ≠ f) := Lib.hid ⟨fun e => by have := (hX.at_.who.lt b rfl).2; omega, fun e => by have := hX.at_.blk.lt; omega⟩
  have H1 := Lib.hid h1
  have KP := Lib.hid kp
  have KQ := Lib.hid kq
  have HW := Lib.hid hW
  have HP := Lib.hid hp
  have HN := Lib.hid hlen
  have HNN := Lib.hid hn
  have HO := Lib.hid hown
  have ST := Lib.hid ((Step.below _ hb).iff hS)
  have NOW : Hid (∀ k, w.heap.size ≤ k → ¬ ownF f bv be (.slice (some ⟨b, 0, none⟩) n c) S0 k) := Lib.hid (fun k hk ho => by have := hX.lt ho; omega)
  have HCALL : Hid (∀ w1 S1, Wk w1 g S1 M [] → Calls Try.prog 63 #[.pointer (some ⟨g, 0, none⟩), v.v] w1 fun e w' => e = .returned (.int .i64 (n : Nat)) ∧ WTurn w1 g S1 (M.make v) [] w') := Lib.hid (fun w1 S1 h => by rw [hn, hlen]; exact wTake_none w1 g S1 h hown v)
  rw [← hlen, ← hn]
  have d0 : ((n : Int) == (n : Int)) = true := by simp
  have d1 : (n == n) = true := by simp
  clear hX hS hlen hown hc1 hc2 hn hp hW hb kp kq h1
  change Calls Try.prog _ #[.pointer (some ⟨f, 0, none⟩), .agg #[.bool t.1, .int .i64 t.2], .agg #[.int .i64 v.n, .int .i64 v.m, .int .i64 v.e]] w _
  go_enter Try.func45, Try.ntmps45
  go_upto_region 1 with fail
  rw [← HW.out]
  try simp only [← HP.out]
  have X2 := boxT_of rfl H1.out.at_.blk KQ.out
  have HX2 := Lib.hid X2
  obtain ⟨q0, q1, q2, q3⟩ := X2
  go_wp2_with fail
  have HD2 : Hid (BoxT f g (p + 1) v W.drew) := Lib.hid HX2.out
  have HD := Lib.hid (H1.out.below ((Below.refl _ _).drew))
  go_region_held3 (fun w' => w'.cell? ⟨f, 0, none⟩ = some (.pointer (some ⟨g, 0, none⟩)) ∧ w'.cell? ⟨p + 1, 0, none⟩ = some (.int .i64 v.n) ∧ w'.cell? ⟨p + 1, 1, none⟩ = some (.int .i64 v.m) ∧ w'.cell? ⟨p + 1, 2, none⟩ = some (.int .i64 v.e)) (first | with_reducible exact HD2.out.all | with_reducible exact HC2.out.all | fail)
    ((go_at_call 63; refine (HCALL.out _ S0 HD.out.at_.rope).mono ?_; rintro e w3 ⟨rfl, t3⟩; obtain ⟨S4, x4, s4⟩ := HD.out.ropeS t3; have X3 := Lib.hid x4; have ST3 := Lib.hid ((ST.out.trans (Step.below _ ((Below.refl _ _).drew))).trans s4); have KP3 := Lib.hid (KP.out.drew.mod s4.1 (NOW.out p (by have := HP.out; omega))); have KQ3 := Lib.hid (KQ.out.drew.mod s4.1 (NOW.out (p + 1) (by have := HP.out; omega))); have HC2 : Hid (BoxT f g (p + 1) v w3) := Lib.hid (boxT_of rfl X3.out.at_.blk KQ3.out); clear x4 s4 t3))
  clear q0 q1 q2 q3
  have a3 : w3.cell? ⟨f, 3, none⟩ = some (.slice (some ⟨b, 0, none⟩) n c) := X3.out.at_.blk.cell 3
  have k0 : w3.cell? ⟨p, 0, none⟩ = some (.bool t.1) := KP3.out.cell 0
  have k1 : w3.cell? ⟨p, 1, none⟩ = some (.int .i64 t.2) := KP3.out.cell 1
  have WHO := Lib.hid X3.out.at_.who
  have a3' : (w3.alloc (.cells #[.bool t.1, .int .i64 t.2] 85)).cell? ⟨f, 3, none⟩ = some (.slice (some ⟨b, 0, none⟩) n c) := (((Below.refl _ w3).alloc (Nat.le_refl _) _).cell (p := ⟨f, 3, none⟩) X3.out.at_.blk.lt).trans a3
  have HL : Hid (who.length + 1 ≤ 1000000) := Lib.hid (by have := HN.out; have := HO.out; omega)
  have HG : Hid (∀ w4, (w3.drew.alloc (.cells #[.bool t.1, .int .i64 t.2] 85)).grownBy w4 (some b) → Blk w4 f 73 #[.pointer (some ⟨g, 0, none⟩), .map (some bv), .map (some be), .slice (some ⟨b, 0, none⟩) n c] ∧ Blk w4 p 85 #[.bool t.1, .int .i64 t.2]) := Lib.hid (fun w4 h2 => ⟨(X3.out.at_.blk.drew.alloc _).grown h2 (fun e => X3.out.fNe.2.2.2 e.symm), (KP3.out.drew.alloc _).grown h2 (fun e => NPB.out.1 (by injection e))⟩)
  go_wp2_with fail
  go_cut [4, 7] from 31 (fun x y wx => x = .pointer (some ⟨p, 0, none⟩) ∧ y = .int .i64 (n : Int) ∧ ∃ b5 c6, Hid (FMX wx f g bv be (.slice (some ⟨b5, 0, none⟩) (n + 1) c6) S4 (M.make v) pv pe (who ++ [t]) [] ∧ Step S w (ownF f bv be (.slice (some ⟨b5, 0, none⟩) (n + 1) c6) S4) wx ∧ Blk wx p 85 #[.bool t.1, .int .i64 t.2]))
  case first =>
    go_region_law (first
      | (refine step_app1 etTk encTk_len encTk_one rfl (.tmp 25) (.tmp 27) rfl rfl (WHO.out.drew.alloc _) w3.heap.size rfl (y := t) (oneTk w3 t) HL.out (by simp) ?_; intro v' w4 h1 h2 h3; have h2' : (w3.drew.alloc (.cells #[.bool t.1, .int .i64 t.2] 85)).grownBy w4 (some b) := h2; have h3' : v'.ownBlock = some b ∨ v'.ownBlock = some (w3.alloc (.cells #[.bool t.1, .int .i64 t.2] 85)).heap.size := h3; have G4 := Lib.hid h2'; have c3 := (HG.out w4 h2').1.cell 3; have c5 := (HG.out w4 h2').1.frozen 3; have E4 := Lib.hid h3'; obtain ⟨b5, c6, hv2, _, _⟩ := h1.shape (by simp); have O4 := Lib.hid h1; have hn2 : (who ++ [t]).length = n + 1 := (by have := HNN.out; simp; omega); rw [hn2] at hv2; subst hv2; clear hn2 h1 h2 h3 h2' h3'))
    all_goals (
      have hG : w3.grownBy w4 (Value.slice (some ⟨b, 0, none⟩) n c).ownBlock := grownBy_trans (grownBy_below ((Below.refl _ w3).drew.alloc (Nat.le_refl _) (.cells #[.bool t.1, .int .i64 t.2] 85))) G4.out
      have hw : ∀ k, (Value.slice (some ⟨b5, 0, none⟩) (n + 1) c6).ownBlock = some k → w3.heap.size ≤ k ∨ (Value.slice (some ⟨b, 0, none⟩) n c).ownBlock = some k := by
        intro k hk
        rcases E4.out with e | e
        · right; rw [show (Value.slice (some ⟨b, 0, none⟩) n c).ownBlock = some b from rfl, ← e]; exact hk
        · left
          rw [e] at hk
          injection hk with hk
          simp at hk
          omega
      have hK := X3.out.setWhoS O4.out hG hw
      have hB : Blk (w4.setCell ⟨f, 3, none⟩ (.slice (some ⟨b5, 0, none⟩) (n + 1) c6)) p 85 #[.bool t.1, .int .i64 t.2] := (HG.out w4 G4.out).2.far (p := ⟨f, 3, none⟩) NPB.out.2 _
      go_wp2_with fail
      go_meet
      exact ⟨rfl, rfl, b5, c6, Lib.hid ⟨hK.1, ST3.out.trans hK.2, hB⟩⟩)
  case rest =>
  obtain ⟨rfl, rfl, b5, c6, HC⟩ := hcut
  clear a3 k0 k1 a3' HG HL WHO X3 ST3 KP3 KQ3
  have hx := HC.out.1
  have a3 : wc.cell? ⟨f, 3, none⟩ = some (.slice (some ⟨b5, 0, none⟩) (n + 1) c6) := hx.at_.blk.cell 3
  have k0 : wc.cell? ⟨p, 0, none⟩ = some (.bool t.1) := HC.out.2.2.cell 0
  have k1 : wc.cell? ⟨p, 1, none⟩ = some (.int .i64 t.2) := HC.out.2.2.cell 1
  have hal : n < (who ++ [t]).length := by have := HNN.out; simp; omega
  have y0 : wc.cell? ⟨b5, n * 2, none⟩ = some (.bool (tok (who ++ [t]) n).1) := hx.at_.who.cellK encTk_len (j := 0) (tok_get hal) rfl
  have y1 : wc.cell? ⟨b5, n * 2 + 1, none⟩ = some (.int .i64 (tok (who ++ [t]) n).2) := hx.at_.who.cellK encTk_len (j := 1) (tok_get hal) rfl
  have z0 : wc.frozen? ⟨b5, n * 2, none⟩ = false := hx.at_.who.frozenK _
  have z1 : wc.frozen? ⟨b5, n * 2 + 1, none⟩ = false := hx.at_.who.frozenK _
  have hP := hx.putWho hal t
  have hset : (who ++ [t]).set n t = who ++ [t] := by rw [HNN.out]; simp
  rw [hset] at hP
  have ai : (n : Int) < (n : Int) + 1 := by omega
  have ani : n < n + 1 := by omega
  have HT : Hid (FTX w f g bv be S ((wc.setCell ⟨b5, n * 2, none⟩ (.bool t.1)).setCell ⟨b5, n * 2 + 1, none⟩ (.int .i64 t.2)).drew (M.make v) pv pe (who ++ [t]) []) := Lib.hid ((hP.1.below ((Below.refl _ _).drew)).ftx ((HC.out.2.1.trans (Step.same hP.2)).trans (Step.below _ ((Below.refl _ _).drew))))
  clear hP hal hx HC hset
  go_wp2_with fail
  go_region
  all_goals (
    go_wp2_with fail
    go_ret
    exact ⟨rfl, HT.out⟩)

theorem take_any (w : World) {g bv be : Nat} {whoV : Value} {S0 : Nat → Prop} (hX : FMX w f g bv be whoV S0 M pv pe who free) (hS : ∀ k, ownF f bv be whoV S0 k ↔ S k) {R : List (List Nat)} (hok : M.Ok) (hp : M.rows.Perm (R ++ lone free)) (hlen : who.length = M.own.length + 1) (hown : M.own.length ≤ 6200) (t : Tok) (v : SV) :
    Calls Try.prog 45 #[.pointer (some ⟨f, 0, none⟩), .agg #[.bool t.1, .int .i64 t.2], v.v] w fun e w' => e = .returned (.int .i64 (takeN M.own.length free : Nat)) ∧ FTX w f g bv be S w' (takeM M free v) pv pe (takeW who free t) free.dropLast := by
  by_cases hf : free = []
  · subst hf
    have e1 : takeM M [] v = M.make v := by unfold takeM; rw [if_pos rfl]
    have e2 : takeN M.own.length [] = M.own.length + 1 := by unfold takeN; rw [if_pos rfl]
    have e3 : takeW who [] t = who ++ [t] := by unfold takeW; rw [if_pos rfl]
    rw [e1, e2, e3]
    exact take_none w hX hS hlen hown t v
  · have e1 : takeM M free v = M.set (free.getLastD 0) v := by unfold takeM; rw [if_neg hf]
    have e2 : takeN M.own.length free = free.getLastD 0 := by unfold takeN; rw [if_neg hf]
    have e3 : takeW who free t = who.set (free.getLastD 0) t := by unfold takeW; rw [if_neg hf]
    rw [e1, e2, e3]
    have hp2 : M.rows.Perm ([free.getLastD 0] :: (R ++ lone free.dropLast)) := hp.trans (((lone_last hf).append_left R).trans List.perm_middle)
    refine take_some w hX hS hlen hown hf ?_ (perm_known hok hp2 (by simp)) t v
    have h1 := own_count hok hp
    rw [List.flatten_append, List.length_append] at h1
    have h2 := lone_flat free
    omega

end

end Go.Proofs.Ytlakcldgolpaiaa
