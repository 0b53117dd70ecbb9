/-
  A forest in memory, with all its blocks; what of it stays where something else turns. No walk.
-/
import Derived.WalkLawsBesides
import Derived.Test.YtpimbgijimbmhaaZEC4
import Derived.Test.YtpimbgijimbmhaaZEW10
import Derived.Test.YtpimbgijimbmhaaAP
namespace Go.Proofs.Ytpimbgijimbmhaa
open Go.RowKit Go.Maps
set_option linter.unusedVariables false

theorem encTk_one (x : Tok) : ∀ u ∈ encTk x, u.oneCell' = true := by
  intro u hu
  simp [encTk] at hu
  rcases hu with rfl | rfl <;> rfl

theorem OK.same {α : Type} {enc : α → List Value} {k E : Nat} {w w' : World} {B : Nat} {v : Value} {xs : List α} (h : OK enc k E w B v xs) (hb : ∀ b, v.ownBlock = some b → w'.heap[b]? = w.heap[b]?) : OK enc k E w' B v xs := by
  refine ⟨h.1, h.2.1, ?_⟩
  rcases h.2.2 with h3 | ⟨q, c, cur, e, hq, hh, r⟩
  · exact .inl h3
  · exact .inr ⟨q, c, cur, e, hq, (hb q (by rw [e]; rfl)).trans hh, r⟩

theorem OK.blk {α : Type} {enc : α → List Value} {k E : Nat} {w : World} {B : Nat} {v : Value} {xs : List α} (h : OK enc k E w B v xs) {b : Nat} (hb : v.ownBlock = some b) : ∃ cs, Blk w b E cs := by
  rcases h.2.2 with ⟨e, _⟩ | ⟨q, c, cur, e, hq, hh, r⟩
  · rw [e] at hb; cases hb
  · rw [e] at hb
    injection hb with hb
    subst hb
    exact ⟨cur, hh⟩

/-- The rope stays where none of its blocks turns. -/
theorem Rp.frame {w w' : World} {g : Nat} {S T : Nat → Prop} {M : RM SV} (h : Rp w g S M) (hm : Mod T w w') (hd : ∀ k, S k → ¬ T k) : Rp w' g S M := by
  obtain ⟨B, sv, nb, cap, N, ss, h1, h2⟩ := h
  have hg : ¬ T g := hd g ((h2 g).1 (.inl rfl))
  have hn : ¬ T nb := hd nb ((h2 nb).1 (.inr (.inl rfl)))
  have hblk : Blk w' g _ _ := (hm.block g h1.mem.blk.lt hg).trans h1.mem.blk
  refine ⟨B, sv, nb, cap, N, ss, ⟨⟨hblk, h1.mem.nodes.same fun b hb => ?_⟩, h1.ok, h1.few, ?_, h1.small⟩, h2⟩
  · injection hb with hb
    subst hb
    exact hm.block _ h1.mem.lt.2 hn
  · by_cases hs : ss = []
    · rcases h1.seeds with h | h
      · exact .inl h
      · refine .inl ⟨hs, ?_⟩
        rcases h.2.2 with ⟨e, _⟩ | ⟨q, c, cur, e, _⟩
        · exact ⟨none, 0, e⟩
        · rw [hs] at e; exact ⟨_, _, e⟩
    · rcases h1.seeds with h | h
      · exact absurd h.1 hs
      · exact .inr (h.same fun b hb => hm.block b (h.lt b hb).2 (hd b ((h2 b).1 (.inr (.inr ⟨hs, hb⟩)))))

theorem Rp.notMap {w : World} {g : Nat} {S : Nat → Prop} {M : RM SV} (h : Rp w g S M) {X : KeyX} {p : Value → Prop} {b n : Nat} {f : X.α → Option Value} (hM : MapG X p w b n f) : ¬ S b := by
  intro hs
  obtain ⟨cs, t, fr, e, -⟩ := h.types3 hs
  obtain ⟨D, ⟨es, clock, h1, _⟩, _⟩ := hM
  rw [h1] at e
  cases e

theorem MapG.notBlk {w : World} {X : KeyX} {p : Value → Prop} {b n : Nat} {f : X.α → Option Value} (hM : MapG X p w b n f) {q t : Nat} {cs : Array Value} (hb : Blk w q t cs) : b ≠ q := by
  rintro rfl
  obtain ⟨D, ⟨es, clock, h1, _⟩, _⟩ := hM
  unfold Blk at hb
  rw [h1] at hb
  cases hb

/-- A forest's memory, its blocks apart from each other. -/
structure FMX (w : World) (f g bv be : Nat) (whoV freeV : Value) (S0 : Nat → Prop) (M : RM SV) (pv : Int → Option Nat) (pe : Int → Option (Nat × Nat)) (who : List Tok) (free : List Nat) : Prop where
  at_ : FAt w f g 0 S0 bv be whoV freeV M pv pe who free
  ne : bv ≠ be
  fr : ∀ k, freeV.ownBlock = some k → ¬ S0 k

def ownF (f bv be : Nat) (whoV freeV : Value) (S0 : Nat → Prop) (k : Nat) : Prop := k = f ∨ S0 k ∨ k = bv ∨ k = be ∨ whoV.ownBlock = some k ∨ freeV.ownBlock = some k

def FM (w : World) (f : Nat) (S : Nat → Prop) (M : RM SV) (pv : Int → Option Nat) (pe : Int → Option (Nat × Nat)) (who : List Tok) (free : List Nat) : Prop :=
  ∃ g bv be whoV freeV S0, FMX w f g bv be whoV freeV S0 M pv pe who free ∧ ∀ k, ownF f bv be whoV freeV S0 k ↔ S k

/-- What was turned, and which blocks are one's own behind it. -/
def Step (S : Nat → Prop) (w : World) (S' : Nat → Prop) (w' : World) : Prop := Mod S w w' ∧ ∀ k, S' k → S k ∨ w.heap.size ≤ k

def FTX (w : World) (f g bv be : Nat) (S : Nat → Prop) (w' : World) (M : RM SV) (pv : Int → Option Nat) (pe : Int → Option (Nat × Nat)) (who : List Tok) (free : List Nat) : Prop :=
  ∃ whoV freeV S0, FMX w' f g bv be whoV freeV S0 M pv pe who free ∧ Step S w (ownF f bv be whoV freeV S0) w'

def FTurn (w : World) (f : Nat) (S : Nat → Prop) (w' : World) (M : RM SV) (pv : Int → Option Nat) (pe : Int → Option (Nat × Nat)) (who : List Tok) (free : List Nat) : Prop :=
  ∃ S', FM w' f S' M pv pe who free ∧ Mod S w w' ∧ ∀ k, S' k → S k ∨ w.heap.size ≤ k

section

variable {w w' : World} {f g bv be : Nat} {whoV freeV : Value} {S0 S S1 : Nat → Prop} {M M' M2 : RM SV} {pv pv' : Int → Option Nat} {pe pe' : Int → Option (Nat × Nat)} {who who' : List Tok} {free free' : List Nat}

theorem FMX.whoNe (h : FMX w f g bv be whoV freeV S0 M pv pe who free) {k : Nat} (hk : whoV.ownBlock = some k) : k ≠ f ∧ ¬ S0 k ∧ k ≠ bv ∧ k ≠ be ∧ freeV.ownBlock ≠ some k := by
  obtain ⟨cs, hb⟩ := h.at_.who.blk hk
  refine ⟨fun e => ?_, h.at_.rope.other hb (by decide) (by decide) (by decide), fun e => h.at_.verts.notBlk hb e.symm, fun e => h.at_.edges.notBlk hb e.symm, fun e => ?_⟩
  · subst e; exact hb.ne_ h.at_.blk (by decide) rfl
  · obtain ⟨cs', hb'⟩ := h.at_.free.blk e
    exact hb.ne_ hb' (by decide) rfl

theorem FMX.freeNe (h : FMX w f g bv be whoV freeV S0 M pv pe who free) {k : Nat} (hk : freeV.ownBlock = some k) : k ≠ f ∧ ¬ S0 k ∧ k ≠ bv ∧ k ≠ be ∧ whoV.ownBlock ≠ some k := by
  obtain ⟨cs, hb⟩ := h.at_.free.blk hk
  refine ⟨fun e => ?_, h.fr k hk, fun e => h.at_.verts.notBlk hb e.symm, fun e => h.at_.edges.notBlk hb e.symm, fun e => (h.whoNe e).2.2.2.2 hk⟩
  subst e; exact hb.ne_ h.at_.blk (by decide) rfl

theorem FMX.fNe (h : FMX w f g bv be whoV freeV S0 M pv pe who free) : ¬ S0 f ∧ bv ≠ f ∧ be ≠ f ∧ whoV.ownBlock ≠ some f ∧ freeV.ownBlock ≠ some f :=
  ⟨h.at_.rope.other h.at_.blk (by decide) (by decide) (by decide), h.at_.verts.notBlk h.at_.blk, h.at_.edges.notBlk h.at_.blk, fun e => (h.whoNe e).1 rfl, fun e => (h.freeNe e).1 rfl⟩

theorem FMX.lt (h : FMX w f g bv be whoV freeV S0 M pv pe who free) {k : Nat} (hk : ownF f bv be whoV freeV S0 k) : k < w.heap.size := by
  rcases hk with rfl | hk | rfl | rfl | hk | hk
  · exact h.at_.blk.lt
  · exact h.at_.rope.lt hk
  · exact h.at_.verts.lt
  · exact h.at_.edges.lt
  · exact (h.at_.who.lt k hk).2
  · exact (h.at_.free.lt k hk).2

/-- Nothing of the forest turns. -/
theorem FMX.frame (h : FMX w f g bv be whoV freeV S0 M pv pe who free) {T : Nat → Prop} (hm : Mod T w w') (hd : ∀ k, ownF f bv be whoV freeV S0 k → ¬ T k) : FMX w' f g bv be whoV freeV S0 M pv pe who free :=
  ⟨⟨h.at_.blk.mod hm (hd f (.inl rfl)), h.at_.rope.frame hm fun k hk => hd k (.inr (.inl hk)), h.at_.verts.mod hm (hd bv (.inr (.inr (.inl rfl)))), h.at_.edges.mod hm (hd be (.inr (.inr (.inr (.inl rfl))))),
    h.at_.who.same fun b hb => hm.block b (h.at_.who.lt b hb).2 (hd b (.inr (.inr (.inr (.inr (.inl hb)))))), h.at_.free.same fun b hb => hm.block b (h.at_.free.lt b hb).2 (hd b (.inr (.inr (.inr (.inr (.inr hb))))))⟩, h.ne, h.fr⟩

theorem FMX.below (h : FMX w f g bv be whoV freeV S0 M pv pe who free) (hb : Below w.heap.size w w') : FMX w' f g bv be whoV freeV S0 M pv pe who free := h.frame (T := fun _ => False) (Mod.of_below hb _) fun _ _ e => e

/-- The rope turns. -/
theorem FMX.rope (h : FMX w f g bv be whoV freeV S0 M pv pe who free) (t : Turn w g S0 M' w') : ∃ S1, FMX w' f g bv be whoV freeV S1 M' pv pe who free ∧ Mod S0 w w' ∧ ∀ k, S1 k → S0 k ∨ w.heap.size ≤ k := by
  obtain ⟨S1, r1, m1, n1⟩ := t
  refine ⟨S1, ⟨⟨h.at_.blk.mod m1 h.fNe.1, r1, h.at_.verts.mod m1 (h.at_.rope.notMap h.at_.verts), h.at_.edges.mod m1 (h.at_.rope.notMap h.at_.edges), h.at_.who.same fun b hb => m1.block b (h.at_.who.lt b hb).2 (h.whoNe hb).2.1, h.at_.free.same fun b hb => m1.block b (h.at_.free.lt b hb).2 (h.fr b hb)⟩, h.ne, fun k hk hs => ?_⟩, m1, n1⟩
  rcases n1 k hs with e | e
  · exact h.fr k hk e
  · have := (h.at_.free.lt k hk).2; omega

theorem FMX.fm (h : FMX w f g bv be whoV freeV S0 M pv pe who free) : FM w f (ownF f bv be whoV freeV S0) M pv pe who free := ⟨g, bv, be, whoV, freeV, S0, h, fun _ => Iff.rfl⟩

/-- One forest's turn, said of its parts. -/
theorem FMX.turn (h : FMX w f g bv be whoV freeV S0 M pv pe who free) (hS : ∀ k, ownF f bv be whoV freeV S0 k ↔ S k) {whoV' freeV' : Value} (h' : FMX w' f g bv be whoV' freeV' S1 M' pv' pe' who' free') (hm : Mod (ownF f bv be whoV freeV S0) w w') (hs : ∀ k, S1 k → S0 k ∨ w.heap.size ≤ k)
    (hw : ∀ k, whoV'.ownBlock = some k → whoV.ownBlock = some k ∨ w.heap.size ≤ k) (hf : ∀ k, freeV'.ownBlock = some k → freeV.ownBlock = some k ∨ w.heap.size ≤ k) : FTX w f g bv be S w' M' pv' pe' who' free' := by
  refine ⟨_, _, _, h', hm.mono fun k _ hk => (hS k).1 hk, fun k hk => ?_⟩
  rcases hk with e | hk | e | e | hk | hk
  · exact .inl ((hS k).1 (.inl e))
  · exact (hs k hk).imp (fun e => (hS k).1 (.inr (.inl e))) id
  · exact .inl ((hS k).1 (.inr (.inr (.inl e))))
  · exact .inl ((hS k).1 (.inr (.inr (.inr (.inl e)))))
  · exact (hw k hk).imp (fun e => (hS k).1 (.inr (.inr (.inr (.inr (.inl e)))))) id
  · exact (hf k hk).imp (fun e => (hS k).1 (.inr (.inr (.inr (.inr (.inr e)))))) id

theorem FTX.fturn (h : FTX w f g bv be S w' M pv pe who free) : FTurn w f S w' M pv pe who free := by
  obtain ⟨whoV, freeV, S0, h1, h2, h3⟩ := h
  exact ⟨_, h1.fm, h2, h3⟩

theorem FTurn.same (h : FM w f S M pv pe who free) (hb : Below w.heap.size w w') : FTurn w f S w' M pv pe who free := by
  obtain ⟨g, bv, be, whoV, freeV, S0, hX, hS⟩ := h
  exact (hX.turn hS (hX.below hb) (Mod.of_below hb _) (fun k hk => .inl hk) (fun k hk => .inl hk) (fun k hk => .inl hk)).fturn

theorem FTurn.trans {w1 : World} {S1' : Nat → Prop} (h : Mod S w w1) (hs : ∀ k, S1' k → S k ∨ w.heap.size ≤ k) (h' : FTurn w1 f S1' w' M' pv' pe' who' free') : FTurn w f S w' M' pv' pe' who' free' := by
  obtain ⟨S2, r2, m2, n2⟩ := h'
  refine ⟨S2, r2, h.trans m2 (fun k hk e => (hs k e).resolve_right (by omega)), fun k hk => ?_⟩
  rcases n2 k hk with e | e
  · exact hs k e
  · exact .inr (Nat.le_trans h.size e)

theorem FM.below (h : FM w f S M pv pe who free) (hb : Below w.heap.size w w') : FM w' f S M pv pe who free := by
  obtain ⟨g, bv, be, whoV, freeV, S0, hX, hS⟩ := h
  exact ⟨g, bv, be, whoV, freeV, S0, hX.below hb, hS⟩

theorem FM.lt (h : FM w f S M pv pe who free) {k : Nat} (hk : S k) : k < w.heap.size := by
  obtain ⟨g, bv, be, whoV, freeV, S0, hX, hS⟩ := h
  exact hX.lt ((hS k).2 hk)

theorem FM.frame (h : FM w f S M pv pe who free) {T : Nat → Prop} (hm : Mod T w w') (hd : ∀ k, S k → ¬ T k) : FM w' f S M pv pe who free := by
  obtain ⟨g, bv, be, whoV, freeV, S0, hX, hS⟩ := h
  exact ⟨g, bv, be, whoV, freeV, S0, hX.frame hm fun k hk => hd k ((hS k).1 hk), hS⟩

/-- The owners' row is another one from now on. -/
theorem FMX.setWho (h : FMX w f g bv be whoV freeV S0 M pv pe who free) {whoV' : Value} (ho : OK encTk 2 85 w' 0 whoV' who') (hg : w.grownBy w' whoV.ownBlock) (hb : whoV'.ownBlock = whoV.ownBlock ∨ ∃ z, w.heap.size ≤ z ∧ whoV'.ownBlock = some z) (hw : ∀ k, whoV'.ownBlock = some k → w.heap.size ≤ k ∨ whoV.ownBlock = some k) :
    FMX (w'.setCell ⟨f, 3, none⟩ whoV') f g bv be whoV' freeV S0 M pv pe who' free ∧ Mod (ownF f bv be whoV freeV S0) w (w'.setCell ⟨f, 3, none⟩ whoV') := by
  have m1 : Mod (fun k => some k = whoV.ownBlock) w w' := Mod.of_grown hg
  have fne := h.fNe
  have hbf : Blk w' f _ _ := h.at_.blk.mod m1 (fun e => fne.2.2.2.1 e.symm)
  have m2 : Mod (fun k => k = f) w' (w'.setCell ⟨f, 3, none⟩ whoV') := (Mod.refl (fun k => k = f) _).setCell (p := ⟨f, 3, none⟩) (fun _ => rfl) _
  have nf : whoV'.ownBlock ≠ some f := fun e => by
    obtain ⟨cs, hb⟩ := ho.blk e
    exact hb.ne_ hbf (by decide) rfl
  refine ⟨⟨⟨?_, ?_, ?_, ?_, ?_, ?_⟩, h.ne, h.fr⟩, ?_⟩
  · exact hbf.set_ 3 whoV'
  · exact (h.at_.rope.frame m1 fun k hk e => (h.whoNe e.symm).2.1 hk).frame m2 fun k hk e => fne.1 (e ▸ hk)
  · exact (h.at_.verts.mod m1 fun e => (h.whoNe e.symm).2.2.1 rfl).mod m2 fun e => fne.2.1 e
  · exact (h.at_.edges.mod m1 fun e => (h.whoNe e.symm).2.2.2.1 rfl).mod m2 fun e => fne.2.2.1 e
  · exact ho.same fun b hb => m2.block b (ho.lt b hb).2 (fun e => nf (e ▸ hb))
  · exact (h.at_.free.same fun b hb => m1.block b (h.at_.free.lt b hb).2 (fun e => (h.whoNe e.symm).2.2.2.2 hb)).same fun b hb => m2.block b (Nat.lt_of_lt_of_le (h.at_.free.lt b hb).2 m1.size) (fun e => fne.2.2.2.2 (e ▸ hb))
  · exact (m1.mono fun k _ e => .inr (.inr (.inr (.inr (.inl e.symm))))).setCell (p := ⟨f, 3, none⟩) (fun _ => .inl rfl) _

/-- The free places' row is another one from now on. -/
theorem FMX.setFree (h : FMX w f g bv be whoV freeV S0 M pv pe who free) {freeV' : Value} (ho : OK encI 1 3 w' 0 freeV' (free'.map natI)) (hg : w.grownBy w' freeV.ownBlock) (hw : ∀ k, freeV'.ownBlock = some k → w.heap.size ≤ k ∨ freeV.ownBlock = some k) :
    FMX (w'.setCell ⟨f, 4, none⟩ freeV') f g bv be whoV freeV' S0 M pv pe who free' ∧ Mod (ownF f bv be whoV freeV S0) w (w'.setCell ⟨f, 4, none⟩ freeV') := by
  have m1 : Mod (fun k => some k = freeV.ownBlock) w w' := Mod.of_grown hg
  have fne := h.fNe
  have hbf : Blk w' f _ _ := h.at_.blk.mod m1 (fun e => fne.2.2.2.2 e.symm)
  have m2 : Mod (fun k => k = f) w' (w'.setCell ⟨f, 4, none⟩ freeV') := (Mod.refl (fun k => k = f) _).setCell (p := ⟨f, 4, none⟩) (fun _ => rfl) _
  have nf : freeV'.ownBlock ≠ some f := fun e => by
    obtain ⟨cs, hb⟩ := ho.blk e
    exact hb.ne_ hbf (by decide) rfl
  refine ⟨⟨⟨?_, ?_, ?_, ?_, ?_, ?_⟩, h.ne, fun k hk hs => ?_⟩, ?_⟩
  · exact hbf.set_ 4 freeV'
  · exact (h.at_.rope.frame m1 fun k hk e => (h.freeNe e.symm).2.1 hk).frame m2 fun k hk e => fne.1 (e ▸ hk)
  · exact (h.at_.verts.mod m1 fun e => (h.freeNe e.symm).2.2.1 rfl).mod m2 fun e => fne.2.1 e
  · exact (h.at_.edges.mod m1 fun e => (h.freeNe e.symm).2.2.2.1 rfl).mod m2 fun e => fne.2.2.1 e
  · exact (h.at_.who.same fun b hb => m1.block b (h.at_.who.lt b hb).2 (fun e => (h.freeNe e.symm).2.2.2.2 hb)).same fun b hb => m2.block b (Nat.lt_of_lt_of_le (h.at_.who.lt b hb).2 m1.size) (fun e => fne.2.2.2.1 (e ▸ hb))
  · exact ho.same fun b hb => m2.block b (ho.lt b hb).2 (fun e => nf (e ▸ hb))
  · rcases hw k hk with e | e
    · have := h.at_.rope.lt hs; omega
    · exact h.fr k e hs
  · exact (m1.mono fun k _ e => .inr (.inr (.inr (.inr (.inr e.symm))))).setCell (p := ⟨f, 4, none⟩) (fun _ => .inl rfl) _

theorem Step.trans {S2 : Nat → Prop} {w1 : World} (h : Step S w S1 w1) (h' : Step S1 w1 S2 w') : Step S w S2 w' :=
  ⟨h.1.trans h'.1 (fun k hk e => (h.2 k e).resolve_right (by omega)), fun k hk => by
    rcases h'.2 k hk with e | e
    · exact h.2 k e
    · exact .inr (Nat.le_trans h.1.size e)⟩

theorem Step.below (S : Nat → Prop) (hb : Below w.heap.size w w') : Step S w S w' := ⟨Mod.of_below hb S, fun k hk => .inl hk⟩

theorem Step.same (hm : Mod S w w') : Step S w S w' := ⟨hm, fun k hk => .inl hk⟩

theorem FMX.ftx (h : FMX w' f g bv be whoV freeV S1 M pv pe who free) (hs : Step S w (ownF f bv be whoV freeV S1) w') : FTX w f g bv be S w' M pv pe who free := ⟨_, _, _, h, hs⟩

theorem FMX.fturn (h : FMX w' f g bv be whoV freeV S1 M pv pe who free) (hs : Step S w (ownF f bv be whoV freeV S1) w') : FTurn w f S w' M pv pe who free := ⟨_, h.fm, hs.1, hs.2⟩

theorem Step.iff {S2 : Nat → Prop} (h : Step S1 w S2 w') (e : ∀ k, S1 k ↔ S k) : Step S w S2 w' := ⟨h.1.mono fun k _ hk => (e k).1 hk, fun k hk => (h.2 k hk).imp (e k).1 id⟩

theorem FMX.ropeS (h : FMX w f g bv be whoV freeV S0 M pv pe who free) (t : Turn w g S0 M' w') : ∃ S1, FMX w' f g bv be whoV freeV S1 M' pv pe who free ∧ Step (ownF f bv be whoV freeV S0) w (ownF f bv be whoV freeV S1) w' := by
  obtain ⟨S1, x, m, n⟩ := h.rope t
  refine ⟨S1, x, m.mono fun k _ hk => .inr (.inl hk), fun k hk => ?_⟩
  rcases hk with e | hk | e | e | hk | hk
  · exact .inl (.inl e)
  · exact (n k hk).imp (fun e => .inr (.inl e)) id
  · exact .inl (.inr (.inr (.inl e)))
  · exact .inl (.inr (.inr (.inr (.inl e))))
  · exact .inl (.inr (.inr (.inr (.inr (.inl hk)))))
  · exact .inl (.inr (.inr (.inr (.inr (.inr hk)))))

theorem FMX.setFreeS (h : FMX w f g bv be whoV freeV S0 M pv pe who free) {freeV' : Value} (ho : OK encI 1 3 w' 0 freeV' (free'.map natI)) (hg : w.grownBy w' freeV.ownBlock) (hw : ∀ k, freeV'.ownBlock = some k → w.heap.size ≤ k ∨ freeV.ownBlock = some k) :
    FMX (w'.setCell ⟨f, 4, none⟩ freeV') f g bv be whoV freeV' S0 M pv pe who free' ∧ Step (ownF f bv be whoV freeV S0) w (ownF f bv be whoV freeV' S0) (w'.setCell ⟨f, 4, none⟩ freeV') := by
  obtain ⟨x, m⟩ := h.setFree ho hg hw
  refine ⟨x, m, fun k hk => ?_⟩
  rcases hk with e | hk | e | e | hk | hk
  · exact .inl (.inl e)
  · exact .inl (.inr (.inl hk))
  · exact .inl (.inr (.inr (.inl e)))
  · exact .inl (.inr (.inr (.inr (.inl e))))
  · exact .inl (.inr (.inr (.inr (.inr (.inl hk)))))
  · rcases hw k hk with e | e
    · exact .inr e
    · exact .inl (.inr (.inr (.inr (.inr (.inr e)))))

/-- One element of a row of one's own is written over. -/
theorem OK.setTok {B b n c a : Nat} {xs : List Tok} (h : OK encTk 2 85 w B (.slice (some ⟨b, 0, none⟩) n c) xs) (ha : a < xs.length) (t : Tok) :
    OK encTk 2 85 ((w.setCell ⟨b, a * 2, none⟩ (.bool t.1)).setCell ⟨b, a * 2 + 1, none⟩ (.int .i64 t.2)) B (.slice (some ⟨b, 0, none⟩) n c) (xs.set a t) := by
  obtain ⟨x, hx⟩ : ∃ x, xs[a]? = some x := ⟨_, List.getElem?_eq_getElem ha⟩
  have h1 := h.setK encTk_len hx (j := 0) (by decide) (x' := (t.1, x.2)) (u := .bool t.1) rfl
  have h2 := h1.setK encTk_len (i := a) (x := (t.1, x.2)) (by rw [List.getElem?_set_self ha]) (j := 1) (by decide) (x' := t) (u := .int .i64 t.2) rfl
  rw [List.set_set] at h2
  exact h2

theorem FMX.putWho {b n c a : Nat} (h : FMX w f g bv be (.slice (some ⟨b, 0, none⟩) n c) freeV S0 M pv pe who free) (ha : a < who.length) (t : Tok) :
    FMX ((w.setCell ⟨b, a * 2, none⟩ (.bool t.1)).setCell ⟨b, a * 2 + 1, none⟩ (.int .i64 t.2)) f g bv be (.slice (some ⟨b, 0, none⟩) n c) freeV S0 M pv pe (who.set a t) free ∧
      Mod (ownF f bv be (.slice (some ⟨b, 0, none⟩) n c) freeV S0) w ((w.setCell ⟨b, a * 2, none⟩ (.bool t.1)).setCell ⟨b, a * 2 + 1, none⟩ (.int .i64 t.2)) := by
  obtain ⟨n1, n2, n3, n4, n5⟩ := h.whoNe (k := b) rfl
  have m1 : Mod (fun k => k = b) w ((w.setCell ⟨b, a * 2, none⟩ (.bool t.1)).setCell ⟨b, a * 2 + 1, none⟩ (.int .i64 t.2)) := ((Mod.refl (fun k => k = b) _).setCell (p := ⟨b, a * 2, none⟩) (fun _ => rfl) _).setCell (p := ⟨b, a * 2 + 1, none⟩) (fun _ => rfl) _
  refine ⟨⟨⟨h.at_.blk.mod m1 (fun e => n1 e.symm), h.at_.rope.frame m1 fun k hk e => n2 (e ▸ hk), h.at_.verts.mod m1 (fun e => n3 e.symm), h.at_.edges.mod m1 (fun e => n4 e.symm), h.at_.who.setTok ha t, h.at_.free.same fun k hk => m1.block k (h.at_.free.lt k hk).2 (fun e => n5 (e ▸ hk))⟩, h.ne, h.fr⟩, m1.mono fun k _ e => .inr (.inr (.inr (.inr (.inl (by rw [e]; rfl)))))⟩

/-- A map turns. -/
theorem FMX.setV (h : FMX w f g bv be whoV freeV S0 M pv pe who free) {fv : Int → Option Nat} (ht : w.mapTurned w' bv) (hM : MapG kI pN w' bv 4096 (fun i : Int => (fv i).map fun a => .int .i64 (a : Int))) :
    FMX w' f g bv be whoV freeV S0 M fv pe who free ∧ Mod (ownF f bv be whoV freeV S0) w w' := by
  have m1 : Mod (fun k => k = bv) w w' := (Mod.refl (fun k => k = bv) _).turned ht fun _ => rfl
  refine ⟨⟨⟨h.at_.blk.mod m1 (fun e => h.fNe.2.1 e.symm), h.at_.rope.frame m1 fun k hk e => h.at_.rope.notMap h.at_.verts (e ▸ hk), hM, h.at_.edges.mod m1 (fun e => h.ne e.symm), h.at_.who.same fun k hk => m1.block k (h.at_.who.lt k hk).2 (h.whoNe hk).2.2.1, h.at_.free.same fun k hk => m1.block k (h.at_.free.lt k hk).2 (h.freeNe hk).2.2.1⟩, h.ne, h.fr⟩, m1.mono fun k _ e => .inr (.inr (.inl e))⟩

theorem FMX.setE (h : FMX w f g bv be whoV freeV S0 M pv pe who free) {fe : Int → Option (Nat × Nat)} (ht : w.mapTurned w' be) (hM : MapG kI pP w' be 4096 (fun i : Int => (fe i).map fun x => .agg #[.int .i64 (x.1 : Int), .int .i64 (x.2 : Int)])) :
    FMX w' f g bv be whoV freeV S0 M pv fe who free ∧ Mod (ownF f bv be whoV freeV S0) w w' := by
  have m1 : Mod (fun k => k = be) w w' := (Mod.refl (fun k => k = be) _).turned ht fun _ => rfl
  refine ⟨⟨⟨h.at_.blk.mod m1 (fun e => h.fNe.2.2.1 e.symm), h.at_.rope.frame m1 fun k hk e => h.at_.rope.notMap h.at_.edges (e ▸ hk), h.at_.verts.mod m1 (fun e => h.ne e), hM, h.at_.who.same fun k hk => m1.block k (h.at_.who.lt k hk).2 (h.whoNe hk).2.2.2.1, h.at_.free.same fun k hk => m1.block k (h.at_.free.lt k hk).2 (h.freeNe hk).2.2.2.1⟩, h.ne, h.fr⟩, m1.mono fun k _ e => .inr (.inr (.inr (.inl e)))⟩

end

end Go.Proofs.Ytpimbgijimbmhaa

/-
  The walk of give.
-/
namespace Go.Proofs.Ytpimbgijimbmhaa
open Go.RowKit Go.Maps
set_option linter.unusedVariables false

theorem etI : ElemT 22 3 1 8 := elemT_of (z := .int .i64 0) Try.underlying22 (by kernel_rfl) (by kernel_rfl) (by decide) (by decide) (by decide)

theorem etTk : ElemT 71 85 2 16 := elemT_of (z := .agg #[.bool false, .int .i64 0]) Try.underlying71 (by kernel_rfl) (by kernel_rfl) (by decide) (by decide) (by decide)

theorem OK.shape {α : Type} {enc : α → List Value} {k E : Nat} {w : World} {B : Nat} {v : Value} {xs : List α} (h : OK enc k E w B v xs) (hl : 0 < xs.length) : ∃ b c, v = .slice (some ⟨b, 0, none⟩) xs.length c ∧ xs.length ≤ c ∧ c ≤ 9223372036854775807 := by
  rcases h.2.2 with ⟨e, h0⟩ | ⟨q, c, cur, e, _, _, h1, h2, _⟩
  · omega
  · exact ⟨q, c, e, h1, by simpa [maxLen] using h2⟩

theorem tok_get {who : List Tok} {a : Nat} (ha : a < who.length) : who[a]? = some (tok who a) := by
  unfold tok
  rw [List.getD_eq_getElem?_getD, List.getElem?_eq_getElem ha]
  rfl

section

variable {w : World} {f : Nat} {S : Nat → Prop} {M : RM SV} {pv : Int → Option Nat} {pe : Int → Option (Nat × Nat)} {who : List Tok} {free : List Nat}

set_option maxRecDepth 100000 in
set_option maxHeartbeats 4000000 in
theorem give_any (w : World) {g bv be : Nat} {whoV freeV : Value} {S0 : Nat → Prop} (hX : FMX w f g bv be whoV freeV S0 M pv pe who free) (hS : ∀ k, ownF f bv be whoV freeV S0 k ↔ S k) (a : Nat) (ha : a < who.length) (hl : free.length + 1 ≤ 1000000) :
    Calls Try.prog 48 #[.pointer (some ⟨f, 0, none⟩), .int .i64 (a : Int)] w fun e w' => e = .returned (.tuple #[]) ∧ FTX w f g bv be S w' M pv pe (who.set a (false, 0)) (free ++ [a]) := by
  obtain ⟨b, c, rfl, hc1, hc2⟩ := hX.at_.who.shape (by omega)
  obtain ⟨n, hn⟩ : ∃ n, n = who.length := ⟨_, rfl⟩
  have y0 : w.cell? ⟨b, a * 2, none⟩ = some (.bool (tok who a).1) := hX.at_.who.cellK encTk_len (j := 0) (tok_get ha) rfl
  have y1 : w.cell? ⟨b, a * 2 + 1, none⟩ = some (.int .i64 (tok who a).2) := hX.at_.who.cellK encTk_len (j := 1) (tok_get ha) rfl
  have z0 : w.frozen? ⟨b, a * 2, none⟩ = false := hX.at_.who.frozenK _
  have z1 : w.frozen? ⟨b, a * 2 + 1, none⟩ = false := hX.at_.who.frozenK _
  have hP := hX.putWho ha (false, 0)
  obtain ⟨W1, hW1⟩ : ∃ W1, W1 = (w.setCell ⟨b, a * 2, none⟩ (.bool false)).setCell ⟨b, a * 2 + 1, none⟩ (.int .i64 0) := ⟨_, rfl⟩
  rw [← hW1] at hP
  rw [← hn] at ha hP hc1
  have a3 : w.cell? ⟨f, 3, none⟩ = some (.slice (some ⟨b, 0, none⟩) who.length c) := hX.at_.blk.cell 3
  rw [← hn] at a3 hX hS
  have H0 := Lib.hid hX
  have H1 := Lib.hid hP.1
  have M1 := Lib.hid hP.2
  have HS := Lib.hid hS
  have HW := Lib.hid hW1
  have ai : (a : Int) < (n : Int) := by omega
  have ni : a < n := ha
  have HL := Lib.hid hl
  clear hX hP hS hW1 hn ha hc1 hc2 hl
  go_enter Try.func48, Try.ntmps48
  go_upto_region 1 with fail
  rw [← HW.out]
  clear a3 y0 y1 z0 z1
  have b4 : W1.cell? ⟨f, 4, none⟩ = some freeV := H1.out.at_.blk.cell 4
  have F1 := Lib.hid H1.out.at_.free
  have HL1 : Hid ((free.map natI).length + 1 ≤ 1000000) := Lib.hid (by simpa using HL.out)
  have HG : Hid (∀ w2, (W1.alloc (.cells #[.int .i64 (a : Int)] 3)).grownBy w2 freeV.ownBlock → Blk w2 f 73 #[.pointer (some ⟨g, 0, none⟩), .map (some bv), .map (some be), .slice (some ⟨b, 0, none⟩) n c, freeV]) := Lib.hid (fun w2 h2 => (H1.out.at_.blk.alloc _).grown h2 (fun e => H1.out.fNe.2.2.2.2 e.symm))
  clear ai ni
  go_wp2_with (refine wpList_appE etI encI_len encI_one rfl (.tmp 15) (.tmp 17) rfl rfl (F1.out.alloc _) W1.heap.size rfl (y := (a : Int)) (oneI W1 (a : Int) 3) HL1.out (by simp) ?_; intro v' w2 h1 h2 h3; have h2' : (W1.alloc (.cells #[.int .i64 (a : Int)] 3)).grownBy w2 freeV.ownBlock := h2; have h3' : v'.ownBlock = freeV.ownBlock ∨ v'.ownBlock = some (W1.alloc (.cells #[.int .i64 (a : Int)] 3)).heap.size := h3; have G2 := Lib.hid h2'; have c4 := (HG.out w2 h2').cell 4; have c5 := (HG.out w2 h2').frozen 4; have E2 := Lib.hid h3'; obtain ⟨A2, c2, hv2, _, _, _, _⟩ := (h1.rk encI_len (Nat.le_refl _)).open_; have O2 := Lib.hid h1; obtain ⟨n2, hn2⟩ : ∃ n2, n2 = (free.map natI ++ [(a : Int)]).length := ⟨_, rfl⟩; rw [← hn2] at hv2; subst hv2; clear hn2 h1 h2 h3 h2' h3' b4)
  go_end0
  refine ⟨rfl, ?_⟩
  have hG : W1.grownBy w2 freeV.ownBlock := grownBy_trans (grownBy_below ((Below.refl _ _).alloc (Nat.le_refl _) _)) G2.out
  have hw : ∀ k, (Value.slice A2 n2 c2).ownBlock = some k → W1.heap.size ≤ k ∨ freeV.ownBlock = some k := by
    intro k hk
    rcases E2.out with e | e
    · right; rw [← e]; exact hk
    · left
      rw [e] at hk
      injection hk with hk
      simp at hk
      omega
  have hO : OK encI 1 3 w2 0 (.slice A2 n2 c2) ((free ++ [a]).map natI) := by
    have := O2.out
    rw [List.map_append]
    exact this
  obtain ⟨k1, k2⟩ := H1.out.setFree hO hG hw
  refine H0.out.turn HS.out k1 (M1.out.trans' k2) (fun k hk => .inl hk) (fun k hk => .inl hk) (fun k hk => ?_)
  rcases hw k hk with e | e
  · exact .inr (Nat.le_trans M1.out.size e)
  · exact .inl e

end

end Go.Proofs.Ytpimbgijimbmhaa

/-
  The walk of take.
-/
namespace Go.Proofs.Ytpimbgijimbmhaa
open Go.RowKit Go.Maps
set_option linter.unusedVariables false

section

variable {w : World} {f : Nat} {S : Nat → Prop} {M : RM SV} {pv : Int → Option Nat} {pe : Int → Option (Nat × Nat)} {who : List Tok} {free : List Nat}

def BoxT (f g p : Nat) (v : SV) (w : World) : Prop := w.cell? ⟨f, 0, none⟩ = some (.pointer (some ⟨g, 0, none⟩)) ∧ w.cell? ⟨p, 0, none⟩ = some (.int .i64 v.n) ∧ w.cell? ⟨p, 1, none⟩ = some (.int .i64 v.m) ∧ w.cell? ⟨p, 2, none⟩ = some (.int .i64 v.e)

theorem BoxT.all {f g p : Nat} {v : SV} {w : World} (h : BoxT f g p v w) : w.cell? ⟨f, 0, none⟩ = some (.pointer (some ⟨g, 0, none⟩)) ∧ w.cell? ⟨p, 0, none⟩ = some (.int .i64 v.n) ∧ w.cell? ⟨p, 1, none⟩ = some (.int .i64 v.m) ∧ w.cell? ⟨p, 2, none⟩ = some (.int .i64 v.e) := h

theorem boxT_of {f g p : Nat} {v : SV} {w : World} {c1 c2 c3 c4 : Value} (h1 : Blk w f 73 #[.pointer (some ⟨g, 0, none⟩), c1, c2, c3, c4]) (h2 : Blk w p 68 #[.int .i64 v.n, .int .i64 v.m, .int .i64 v.e]) : BoxT f g p v w := ⟨h1.cell 0, h2.cell 0, h2.cell 1, h2.cell 2⟩

theorem oneTk (w : World) (y : Tok) : ∀ (j : Nat) u, (encTk y)[j]? = some u → (w.alloc (.cells #[.bool y.1, .int .i64 y.2] 85)).cell? ⟨w.heap.size, j, none⟩ = some u := by
  intro j u hu; rw [(Blk.new w _ _).cell j]; simpa [encTk] using hu

theorem OK.shrinkI {w : World} {B fb fc k : Nat} {xs : List Int} (h : OK encI 1 3 w B (.slice (some ⟨fb, 0, none⟩) (k + 1) fc) xs) : OK encI 1 3 w B (.slice (some ⟨fb, 0, none⟩) k fc) xs.dropLast := by
  obtain ⟨o1, o2, o3⟩ := h
  rcases o3 with ⟨e, _⟩ | ⟨q, c0, cur, e, r1, r2, r3, r4, r5, r6⟩
  · cases e
  · injection e with e1 e2 e3
    injection e1 with e1
    injection e1 with e1
    subst e1 e3
    have hl : xs.dropLast.length = k := by simp; omega
    refine ⟨by omega, by rw [flat_len encI_len], .inr ⟨fb, fc, cur, by rw [hl], r1, r2, by omega, r4, r5, ?_⟩⟩
    have hne : xs ≠ [] := by rintro rfl; simp at e2
    have hx : xs = xs.dropLast ++ [xs.getLast hne] := (List.dropLast_concat_getLast hne).symm
    have e9 : (cur.toList.take (xs.length * 1)).take k = cur.toList.take k := by rw [List.take_take]; congr 1; omega
    rw [hl, Nat.mul_one, ← e9, r6]
    conv => lhs; rw [hx]
    rw [List.flatMap_append, List.take_append_of_le_length (by rw [flat_len encI_len]; omega), List.take_of_length_le (by rw [flat_len encI_len]; omega)]

set_option maxRecDepth 100000 in
set_option maxHeartbeats 4000000 in
theorem take_none (w : World) {g bv be : Nat} {whoV freeV : Value} {S0 : Nat → Prop} (hX : FMX w f g bv be whoV freeV S0 M pv pe who []) (hS : ∀ k, ownF f bv be whoV freeV S0 k ↔ S k) (hlen : who.length = M.own.length + 1) (hown : M.own.length ≤ 6200) (t : Tok) (v : SV) :
    Calls Try.prog 45 #[.pointer (some ⟨f, 0, none⟩), .agg #[.bool t.1, .int .i64 t.2], v.v] w fun e w' => e = .returned (.int .i64 ((M.own.length + 1 : Nat) : Int)) ∧ FTX w f g bv be S w' (M.make v) pv pe (who ++ [t]) [] := by
  obtain ⟨A4, c4, hfv, -, -, -, -⟩ := (hX.at_.free.rk encI_len (Nat.le_refl _)).open_
  simp only [List.map_nil, List.length_nil] at hfv
  subst hfv
  obtain ⟨p, hp⟩ : ∃ p, p = w.heap.size := ⟨_, rfl⟩
  obtain ⟨W, hW⟩ : ∃ W, W = (w.alloc (.cells #[.bool t.1, .int .i64 t.2] 85)).alloc (.cells #[.int .i64 v.n, .int .i64 v.m, .int .i64 v.e] 68) := ⟨_, rfl⟩
  have hb : Below w.heap.size w W := by rw [hW]; exact ((Below.refl _ _).alloc (Nat.le_refl _) _).alloc (by simp) _
  have kp : Blk W p 85 #[.bool t.1, .int .i64 t.2] := by rw [hW, hp]; exact (Blk.new _ _ _).alloc _
  have kq : Blk W (p + 1) 68 #[.int .i64 v.n, .int .i64 v.m, .int .i64 v.e] := by
    rw [hW, hp]
    have := Blk.new (w.alloc (.cells #[.bool t.1, .int .i64 t.2] 85)) 68 #[.int .i64 v.n, .int .i64 v.m, .int .i64 v.e]
    simpa using this
  have h1 := hX.below hb
  have H0 := Lib.hid hX
  have HS := Lib.hid hS
  have H1 := Lib.hid h1
  have KP := Lib.hid kp
  have KQ := Lib.hid kq
  have HB := Lib.hid hb
  have HW := Lib.hid hW
  have HP := Lib.hid hp
  have HN := Lib.hid hlen
  have HO := Lib.hid hown
  have NP : Hid (p ≠ f ∧ p + 1 ≠ f) := Lib.hid ⟨fun e => by subst e; exact kp.ne_ h1.at_.blk (by decide) rfl, fun e => kq.ne_ h1.at_.blk (by decide) e⟩
  clear hX hS h1 kp kq hb hW hp hlen hown
  change Calls Try.prog _ #[.pointer (some ⟨f, 0, none⟩), .agg #[.bool t.1, .int .i64 t.2], .agg #[.int .i64 v.n, .int .i64 v.m, .int .i64 v.e]] w _
  go_enter Try.func45, Try.ntmps45
  go_upto_region 1 with fail
  rw [← HW.out]
  try simp only [← HP.out]
  have a4 : W.cell? ⟨f, 4, none⟩ = some (.slice A4 0 c4) := H1.out.at_.blk.cell 4
  go_wp2_with fail
  clear a4
  have X2 := boxT_of H1.out.at_.blk KQ.out
  have HX2 := Lib.hid X2
  obtain ⟨q0, q1, q2, q3⟩ := X2
  have HD2 : Hid (BoxT f g (p + 1) v W.drew) := Lib.hid HX2.out
  have HM : Hid (M.makeA v = M.make v ∧ M.makeN = ((M.own.length + 1 : Nat) : Int) ∧ M.makeE = 0) := Lib.hid (by
    have := HO.out
    refine ⟨by unfold RM.makeA; rw [if_pos (by omega)], ?_, by unfold RM.makeE; rw [if_pos (by omega)]⟩
    unfold RM.makeN; rw [if_pos (by omega)]; push_cast; rfl)
  have RD2 := Lib.hid (H1.out.at_.rope.below ((Below.refl _ _).drew))
  go_region_held3 (fun w' => w'.cell? ⟨f, 0, none⟩ = some (.pointer (some ⟨g, 0, none⟩)) ∧ w'.cell? ⟨p + 1, 0, none⟩ = some (.int .i64 v.n) ∧ w'.cell? ⟨p + 1, 1, none⟩ = some (.int .i64 v.m) ∧ w'.cell? ⟨p + 1, 2, none⟩ = some (.int .i64 v.e)) (first | with_reducible exact HD2.out.all | with_reducible exact HC2.out.all | fail)
    ((go_at_call 63; refine (rMake _ g S0 M RD2.out v).mono ?_; rw [HM.out.1, HM.out.2.1, HM.out.2.2]; rintro e w3 ⟨rfl, t3⟩; have T3 := Lib.hid t3; obtain ⟨S3, r3, m3, n3⟩ := t3; have F3 := Lib.hid ((H1.out.at_.blk.drew).mod m3 (RD2.out.other H1.out.at_.blk.drew (by decide) (by decide) (by decide))); have B3 := Lib.hid (KQ.out.drew.mod m3 (RD2.out.other KQ.out.drew (by decide) (by decide) (by decide))); have HC2 : Hid (BoxT f g (p + 1) v w3) := Lib.hid (boxT_of F3.out B3.out); clear r3 m3 n3))
  clear q0 q1 q2 q3
  obtain ⟨S4, x4, m4, n4⟩ := (H1.out.below ((Below.refl _ _).drew)).rope T3.out
  have KP3 := Lib.hid (KP.out.drew.mod m4 (RD2.out.other KP.out.drew (by decide) (by decide) (by decide)))
  have X3 := Lib.hid x4
  have M3 : Hid (Mod (ownF f bv be whoV (.slice A4 0 c4) S0) w w3) := Lib.hid (((Mod.of_below HB.out _).drew).trans' (m4.mono fun k _ hk => .inr (.inl hk)))
  have N3 : Hid (∀ k, S4 k → S0 k ∨ w.heap.size ≤ k) := Lib.hid (fun k hk => (n4 k hk).imp id (fun e => Nat.le_trans HB.out.size e))
  clear x4 m4 n4 T3 F3 B3 HC2 RD2 HD2 HX2 KQ
  have a3 : w3.cell? ⟨f, 3, none⟩ = some whoV := X3.out.at_.blk.cell 3
  have k0 : w3.cell? ⟨p, 0, none⟩ = some (.bool t.1) := KP3.out.cell 0
  have k1 : w3.cell? ⟨p, 1, none⟩ = some (.int .i64 t.2) := KP3.out.cell 1
  have WHO := Lib.hid X3.out.at_.who
  have a3' : (w3.alloc (.cells #[.bool t.1, .int .i64 t.2] 85)).cell? ⟨f, 3, none⟩ = some whoV := (((Below.refl _ w3).alloc (Nat.le_refl _) _).cell (p := ⟨f, 3, none⟩) X3.out.at_.blk.lt).trans a3
  have HL : Hid (who.length + 1 ≤ 1000000) := Lib.hid (by have := HN.out; have := HO.out; omega)
  have HG : Hid (∀ w4, (w3.drew.alloc (.cells #[.bool t.1, .int .i64 t.2] 85)).grownBy w4 whoV.ownBlock → Blk w4 f 73 #[.pointer (some ⟨g, 0, none⟩), .map (some bv), .map (some be), whoV, .slice A4 0 c4]) := Lib.hid (fun w4 h2 => (X3.out.at_.blk.drew.alloc _).grown h2 (fun e => X3.out.fNe.2.2.2.1 e.symm))
  go_wp2_with fail
  go_region_law (first
    | (refine step_app1 etTk encTk_len encTk_one rfl (.tmp 30) (.tmp 32) rfl rfl (WHO.out.drew.alloc _) w3.heap.size rfl (y := t) (oneTk w3 t) HL.out (by simp) ?_; intro v' w4 h1 h2 h3; have h2' : (w3.drew.alloc (.cells #[.bool t.1, .int .i64 t.2] 85)).grownBy w4 whoV.ownBlock := h2; have h3' : v'.ownBlock = whoV.ownBlock ∨ v'.ownBlock = some (w3.alloc (.cells #[.bool t.1, .int .i64 t.2] 85)).heap.size := h3; have G4 := Lib.hid h2'; have c3 := (HG.out w4 h2').cell 3; have c5 := (HG.out w4 h2').frozen 3; have E4 := Lib.hid h3'; obtain ⟨A5, c6, hv2, _, _, _, _⟩ := (h1.rk encTk_len (Nat.le_refl _)).open_; have O4 := Lib.hid h1; obtain ⟨n2, hn2⟩ : ∃ n2, n2 = (who ++ [t]).length := ⟨_, rfl⟩; rw [← hn2] at hv2; subst hv2; clear hn2 h1 h2 h3 h2' h3'))
  all_goals (
    have hG : w3.grownBy w4 whoV.ownBlock := grownBy_trans (grownBy_below ((Below.refl _ w3).drew.alloc (Nat.le_refl _) (.cells #[.bool t.1, .int .i64 t.2] 85))) G4.out
    have hw : ∀ k, (Value.slice A5 n2 c6).ownBlock = some k → w3.heap.size ≤ k ∨ whoV.ownBlock = some k := by
      intro k hk
      rcases E4.out with e | e
      · right; rw [← e]; exact hk
      · left
        rw [e] at hk
        injection hk with hk
        simp at hk
        omega
    have hK := X3.out.setWho O4.out hG (E4.out.imp id (fun e => ⟨_, by simp, e⟩)) hw
    have HT : Hid (FTX w f g bv be S (w4.setCell ⟨f, 3, none⟩ (.slice A5 n2 c6)) (M.make v) pv pe (who ++ [t]) []) := Lib.hid (by
      refine H0.out.turn HS.out hK.1 (M3.out.trans hK.2 (fun k hk hs => ?_)) N3.out (fun k hk => ?_) (fun k hk => .inl hk)
      · rcases hs with e | hs | e | e | hs | hs
        · exact .inl e
        · rcases N3.out k hs with e | e
          · exact .inr (.inl e)
          · omega
        · exact .inr (.inr (.inl e))
        · exact .inr (.inr (.inr (.inl e)))
        · exact .inr (.inr (.inr (.inr (.inl hs))))
        · exact .inr (.inr (.inr (.inr (.inr hs))))
      · rcases hw k hk with e | e
        · exact .inr (Nat.le_trans M3.out.size e)
        · exact .inl e)
    clear hG hw hK
    go_wp2_with fail
    go_ret
    exact ⟨by push_cast; rfl, HT.out⟩)

set_option maxRecDepth 100000 in
set_option maxHeartbeats 4000000 in
theorem take_some (w : World) {g bv be : Nat} {whoV freeV : Value} {S0 : Nat → Prop} (hX : FMX w f g bv be whoV freeV S0 M pv pe who free) (hS : ∀ k, ownF f bv be whoV freeV S0 k ↔ S k) (hf : free ≠ []) (hlen : who.length = M.own.length + 1) (hown : M.own.length ≤ 6200) (hfl : free.length ≤ 6200) (t : Tok) (v : SV) (hk : 1 ≤ free.getLastD 0 ∧ free.getLastD 0 ≤ M.own.length) :
    Calls Try.prog 45 #[.pointer (some ⟨f, 0, none⟩), .agg #[.bool t.1, .int .i64 t.2], v.v] w fun e w' => e = .returned (.int .i64 (free.getLastD 0 : Nat)) ∧ FTX w f g bv be S w' (M.set (free.getLastD 0) v) pv pe (who.set (free.getLastD 0) t) free.dropLast := by
  obtain ⟨b, c, hwv, hc1, hc2⟩ := hX.at_.who.shape (by omega)
  obtain ⟨n, hn⟩ : ∃ n, n = who.length := ⟨_, rfl⟩
  rw [← hn] at hwv hc1
  subst hwv
  have hfl0 : 0 < free.length := List.length_pos_iff.2 hf
  obtain ⟨fb, fc, hfv, hd1, hd2⟩ := hX.at_.free.shape (by simpa using hfl0)
  obtain ⟨k, hkl⟩ : ∃ k, free.length = k + 1 := ⟨free.length - 1, by omega⟩
  have hml : (free.map natI).length = k + 1 := by simpa using hkl
  rw [hml] at hfv hd1
  subst hfv
  obtain ⟨a, ha⟩ : ∃ a, a = free.getLastD 0 := ⟨_, rfl⟩
  have hfa : free = free.dropLast ++ [a] := by
    have h1 := (List.dropLast_concat_getLast hf).symm
    have h2 : free.getLastD 0 = free.getLast hf := by rw [List.getLastD_eq_getLast?, List.getLast?_eq_some_getLast hf]; rfl
    rw [ha, h2]; exact h1
  have hgl : (free.map natI)[k]? = some (a : Int) := by
    rw [List.getElem?_map, hfa, List.getElem?_append_right (by simp; omega)]
    simp [hkl, natI]
  have hcl : w.cell? ⟨fb, k, none⟩ = some (.int .i64 (a : Int)) := by
    have := hX.at_.free.cellK encI_len (j := 0) hgl rfl
    simpa using this
  rw [← ha] at hk ⊢
  have hsh : OK encI 1 3 w 0 (.slice (some ⟨fb, 0, none⟩) k fc) (free.dropLast.map natI) := by
    have := hX.at_.free.shrinkI
    rwa [← List.map_dropLast] at this
  obtain ⟨p, hp⟩ : ∃ p, p = w.heap.size := ⟨_, rfl⟩
  obtain ⟨W, hW⟩ : ∃ W, W = (w.alloc (.cells #[.bool t.1, .int .i64 t.2] 85)).alloc (.cells #[.int .i64 v.n, .int .i64 v.m, .int .i64 v.e] 68) := ⟨_, rfl⟩
  have hb : Below w.heap.size w W := by rw [hW]; exact ((Below.refl _ _).alloc (Nat.le_refl _) _).alloc (by simp) _
  have kp : Blk W p 85 #[.bool t.1, .int .i64 t.2] := by rw [hW, hp]; exact (Blk.new _ _ _).alloc _
  have kq : Blk W (p + 1) 68 #[.int .i64 v.n, .int .i64 v.m, .int .i64 v.e] := by
    rw [hW, hp]
    have := Blk.new (w.alloc (.cells #[.bool t.1, .int .i64 t.2] 85)) 68 #[.int .i64 v.n, .int .i64 v.m, .int .i64 v.e]
    simpa using this
  have h1 := hX.below hb
  have hcl1 : W.cell? ⟨fb, k, none⟩ = some (.int .i64 (a : Int)) := (hb.cell (p := ⟨fb, k, none⟩) (hX.at_.free.lt fb rfl).2).trans hcl
  obtain ⟨W2, hW2⟩ : ∃ W2, W2 = W.setCell ⟨f, 4, none⟩ (.slice (some ⟨fb, 0, none⟩) k fc) := ⟨_, rfl⟩
  have hx2 := h1.setFreeS (free' := free.dropLast) (hsh.below hb) (⟨rfl, rfl, rfl, Nat.le_refl _, fun _ _ _ => rfl⟩ : W.grownBy W (Value.slice (some ⟨fb, 0, none⟩) (k + 1) fc).ownBlock) (fun j hj => .inr hj)
  rw [← hW2] at hx2
  have hne1 : p ≠ f := fun e => by subst e; exact kp.ne_ h1.at_.blk (by decide) rfl
  have hne2 : p + 1 ≠ f := fun e => kq.ne_ h1.at_.blk (by decide) e
  have kp2 : Blk W2 p 85 #[.bool t.1, .int .i64 t.2] := by rw [hW2]; exact kp.far (p := ⟨f, 4, none⟩) hne1 _
  have kq2 : Blk W2 (p + 1) 68 #[.int .i64 v.n, .int .i64 v.m, .int .i64 v.e] := by rw [hW2]; exact kq.far (p := ⟨f, 4, none⟩) hne2 _
  have hpb : p ≠ b := fun e => by have := (hX.at_.who.lt b rfl).2; omega
  have ST := Lib.hid (((Step.below _ hb).trans hx2.2).iff hS)
  have H1 := Lib.hid h1
  have H2 := Lib.hid hx2.1
  have KP := Lib.hid kp2
  have KQ := Lib.hid kq2
  have HW := Lib.hid hW
  have HW2 := Lib.hid hW2
  have HP := Lib.hid hp
  have HN := Lib.hid hlen
  have HNN := Lib.hid hn
  have HO := Lib.hid hown
  have HK := Lib.hid hk
  have HPB := Lib.hid hpb
  have hk1 : k ≤ 6200 := by omega
  have d0 : ((k : Int) + 1 == 0) = false := by simp; omega
  have d1 : IntKind.i64.wrap (k : Int) = (k : Int) := by rw [IntKind.wrap_i64]; omega
  have d2 : (k : Int) < (k : Int) + 1 := by omega
  have d3 : (k : Int) ≤ (fc : Int) := by omega
  have d4 : k ≤ fc := by omega
  clear hX hS hc1 hc2 hf hlen hown hfl hk hfl0 hd1 hd2 hkl hml ha hfa hgl hcl hsh hp hW hb kp kq h1 hW2 hx2 hne1 hne2 kp2 kq2 hpb hn hk1
  change Calls Try.prog _ #[.pointer (some ⟨f, 0, none⟩), .agg #[.bool t.1, .int .i64 t.2], .agg #[.int .i64 v.n, .int .i64 v.m, .int .i64 v.e]] w _
  go_enter Try.func45, Try.ntmps45
  go_upto_region 1 with fail
  rw [← HW.out]
  try simp only [← HP.out]
  have a4 : W.cell? ⟨f, 4, none⟩ = some (.slice (some ⟨fb, 0, none⟩) (k + 1) fc) := H1.out.at_.blk.cell 4
  have z4 : W.frozen? ⟨f, 4, none⟩ = false := H1.out.at_.blk.frozen 4
  go_upto_region 8 with fail
  rw [← HW2.out]
  clear a4 z4 hcl1 d0 d1 d2 d3 d4
  have X2 := boxT_of H2.out.at_.blk KQ.out
  have HX2 := Lib.hid X2
  obtain ⟨q0, q1, q2, q3⟩ := X2
  have HD2 : Hid (BoxT f g (p + 1) v W2.drew) := Lib.hid HX2.out
  have HM : Hid (M.setA (a : Int) v = M.set a v ∧ M.errA (a : Int) = 0) := Lib.hid (by
    have hk := known_of (M := M) HK.out
    refine ⟨by unfold RM.setA; rw [if_pos hk, Int.toNat_natCast], by unfold RM.errA; rw [if_pos hk]⟩)
  have RD2 := Lib.hid (H2.out.at_.rope.below ((Below.refl _ _).drew))
  go_wp2_with fail
  go_region_held3 (fun w' => w'.cell? ⟨f, 0, none⟩ = some (.pointer (some ⟨g, 0, none⟩)) ∧ w'.cell? ⟨p + 1, 0, none⟩ = some (.int .i64 v.n) ∧ w'.cell? ⟨p + 1, 1, none⟩ = some (.int .i64 v.m) ∧ w'.cell? ⟨p + 1, 2, none⟩ = some (.int .i64 v.e)) (first | with_reducible exact HD2.out.all | with_reducible exact HC2.out.all | fail)
    ((go_at_call 51; refine (rSet _ g S0 M RD2.out (a : Int) v).mono ?_; rw [HM.out.1, HM.out.2]; rintro e w3 ⟨rfl, t3⟩; have T3 := Lib.hid t3; obtain ⟨S3, r3, m3, n3⟩ := t3; have F3 := Lib.hid ((H2.out.at_.blk.drew).mod m3 (RD2.out.other H2.out.at_.blk.drew (by decide) (by decide) (by decide))); have B3 := Lib.hid (KQ.out.drew.mod m3 (RD2.out.other KQ.out.drew (by decide) (by decide) (by decide))); have HC2 : Hid (BoxT f g (p + 1) v w3) := Lib.hid (boxT_of F3.out B3.out); clear r3 m3 n3))
  clear q0 q1 q2 q3
  obtain ⟨S4, x4, s4⟩ := (H2.out.below ((Below.refl _ _).drew)).ropeS T3.out
  have KP3 : Hid (Blk w3 p 85 #[.bool t.1, .int .i64 t.2]) := Lib.hid (by
    obtain ⟨S3, r3, m3, n3⟩ := T3.out
    exact KP.out.drew.mod m3 (RD2.out.other KP.out.drew (by decide) (by decide) (by decide)))
  have X3 := Lib.hid x4
  have ST3 := Lib.hid ((ST.out.trans (Step.below _ ((Below.refl _ _).drew))).trans s4)
  clear x4 s4 T3 F3 B3 HC2 RD2 HD2 HX2 KQ
  have a3 : w3.cell? ⟨f, 3, none⟩ = some (.slice (some ⟨b, 0, none⟩) n c) := X3.out.at_.blk.cell 3
  have k0 : w3.cell? ⟨p, 0, none⟩ = some (.bool t.1) := KP3.out.cell 0
  have k1 : w3.cell? ⟨p, 1, none⟩ = some (.int .i64 t.2) := KP3.out.cell 1
  have hal : a < who.length := by have := HK.out; have := HN.out; omega
  have y0 : w3.cell? ⟨b, a * 2, none⟩ = some (.bool (tok who a).1) := X3.out.at_.who.cellK encTk_len (j := 0) (tok_get hal) rfl
  have y1 : w3.cell? ⟨b, a * 2 + 1, none⟩ = some (.int .i64 (tok who a).2) := X3.out.at_.who.cellK encTk_len (j := 1) (tok_get hal) rfl
  have z0 : w3.frozen? ⟨b, a * 2, none⟩ = false := X3.out.at_.who.frozenK _
  have z1 : w3.frozen? ⟨b, a * 2 + 1, none⟩ = false := X3.out.at_.who.frozenK _
  have ai : (a : Int) < (n : Int) := by have := HNN.out; omega
  have an : a < n := by have := HNN.out; omega
  have hP := X3.out.putWho hal t
  have HT : Hid (FTX w f g bv be S ((w3.setCell ⟨b, a * 2, none⟩ (.bool t.1)).setCell ⟨b, a * 2 + 1, none⟩ (.int .i64 t.2)).drew (M.set a v) pv pe (who.set a t) free.dropLast) := Lib.hid ((hP.1.below ((Below.refl _ _).drew)).ftx ((ST3.out.trans (Step.same hP.2)).trans (Step.below _ ((Below.refl _ _).drew))))
  clear hP hal
  go_wp2_with fail
  go_region
  all_goals (
    go_wp2_with fail
    go_ret
    exact ⟨rfl, HT.out⟩)

theorem take_any (w : World) {g bv be : Nat} {whoV freeV : Value} {S0 : Nat → Prop} (hX : FMX w f g bv be whoV freeV S0 M pv pe who free) (hS : ∀ k, ownF f bv be whoV freeV S0 k ↔ S k) {R : List (List Nat)} (hok : M.Ok) (hp : M.rows.Perm (R ++ lone free)) (hlen : who.length = M.own.length + 1) (hown : M.own.length ≤ 6200) (t : Tok) (v : SV) :
    Calls Try.prog 45 #[.pointer (some ⟨f, 0, none⟩), .agg #[.bool t.1, .int .i64 t.2], v.v] w fun e w' => e = .returned (.int .i64 (takeN M.own.length free : Nat)) ∧ FTX w f g bv be S w' (takeM M free v) pv pe (takeW who free t) free.dropLast := by
  by_cases hf : free = []
  · subst hf
    have e1 : takeM M [] v = M.make v := by unfold takeM; rw [if_pos rfl]
    have e2 : takeN M.own.length [] = M.own.length + 1 := by unfold takeN; rw [if_pos rfl]
    have e3 : takeW who [] t = who ++ [t] := by unfold takeW; rw [if_pos rfl]
    rw [e1, e2, e3]
    exact take_none w hX hS hlen hown t v
  · have e1 : takeM M free v = M.set (free.getLastD 0) v := by unfold takeM; rw [if_neg hf]
    have e2 : takeN M.own.length free = free.getLastD 0 := by unfold takeN; rw [if_neg hf]
    have e3 : takeW who free t = who.set (free.getLastD 0) t := by unfold takeW; rw [if_neg hf]
    rw [e1, e2, e3]
    have hp2 : M.rows.Perm ([free.getLastD 0] :: (R ++ lone free.dropLast)) := hp.trans (((lone_last hf).append_left R).trans List.perm_middle)
    refine take_some w hX hS hf hlen hown ?_ t v (perm_known hok hp2 (by simp))
    have h1 := own_count hok hp
    rw [List.flatten_append, List.length_append] at h1
    have h2 : (lone free).flatten.length = free.length := by
      have : ∀ l : List Nat, (lone l).flatten.length = l.length := by
        intro l
        induction l with
        | nil => rfl
        | cons x l ih => show (x :: (lone l).flatten).length = _; rw [List.length_cons, ih, List.length_cons]
      exact this free
    omega

end

end Go.Proofs.Ytpimbgijimbmhaa
