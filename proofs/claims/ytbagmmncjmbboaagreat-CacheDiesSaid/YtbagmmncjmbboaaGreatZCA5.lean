/-
  The walk of cache's clean: the log's flush first, where it is asked for; then the page's write.
-/
import Derived.Test.YtbagmmncjmbboaaGreatZCA4
import Derived.Test.YtbagmmncjmbboaaGreatZN1
import Derived.Test.YtbagmmncjmbboaaGreatZJ7
namespace Go.Proofs.YtbagmmncjmbboaaGreat
open Go.RowKit Go.Maps
set_option linter.unusedVariables false

/-- A pool's own numbers. -/
structure PO where
  base : Nat
  count : Nat
  turn : Nat
  uns : Bool
  dead : Bool

/-- The cells of a pool on the disk p and the log g, with nf frames in fb and the map mp. -/
def poC (p g fb mp nf : Nat) (o : PO) : Array Value := #[.pointer (some ⟨p, 0, none⟩), .pointer (some ⟨g, 0, none⟩), .int .i64 (o.base : Int), .int .i64 (o.count : Int), .slice (some ⟨fb, 0, none⟩) nf nf, .map (some mp), .int .i64 (o.turn : Int), .bool o.uns, .bool o.dead]

/-- A block that is neither the disk's nor the log's. -/
structure Apart (p sb mb g : Nat) (pl : Option Nat) (sv bv : Value) (k : Nat) : Prop where
  own : ¬ Own p sb mb k
  log : ¬ OwnL g sv bv k
  pl : pl ≠ some k

theorem Apart.ownW {p sb mb g : Nat} {pl : Option Nat} {sv bv : Value} {k : Nat} (h : Apart p sb mb g pl sv bv k) : ¬ OwnW p sb mb g k := fun e => e.elim h.own fun e => h.log (.inl e)

theorem WalAt.apart {S : Nat → Prop} {w w' : World} {p sb mb g B : Nat} {pl : Option Nat} {s : DS} {sv bv : Value} {m : LG} (h : WalAt w p sb mb pl s g B sv bv m) (hm : Mod S w w') (hS : ∀ k, S k → Apart p sb mb g pl sv bv k) : WalAt w' p sb mb pl s g B sv bv m :=
  ⟨h.dk.mod hm (fun e => (hS _ e).own (.inl rfl)) (fun e => (hS _ e).own (.inr (.inl rfl))) (fun e => (hS _ e).own (.inr (.inr rfl))) (fun b hb e => (hS _ e).pl hb), h.lg.mod hm (fun k hk e => (hS _ e).log hk), h.sep, h.pl⟩

/-- The flush that clean asks for, if it asks for one. -/
def flushP (pg : PG) (s : DS) (m : LG) : DS × LG × Int := if (m.lsn m.safe : Int) ≤ pg.lsn then m.flush s else (s, m, 0)

/-- The disk and the log behind clean, and what it answers. -/
def cleanP (at_ : Int) (pg : PG) (s : DS) (m : LG) : DS × LG × Int :=
  if (flushP pg s m).2.2 = 0 then ((flushP pg s m).1.write at_ (pageL pg), (flushP pg s m).2.1, (flushP pg s m).1.writeE at_ (pageL pg)) else flushP pg s m

def PO.after (o : PO) (k : Int) : PO := if k = 0 then { o with uns := true } else { o with dead := true }
def framesAfter (fs : List (Fr × FrM)) (i : Nat) (x : Fr × FrM) (k : Int) : List (Fr × FrM) := if k = 0 then fs.set i ({ x.1 with dirty := false }, x.2) else fs

/-- What clean leaves. -/
def CleanOut (w : World) (q fb mp nf i p sb mb g B : Nat) (pl : Option Nat) (s : DS) (sv bv : Value) (m : LG) (o : PO) (fs : List (Fr × FrM)) (x : Fr × FrM) (pg : PG) (at_ : Int) (e : Ending) (w' : World) : Prop :=
  (x.1.dirty = false ∧ e = .returned (.int .i64 0) ∧ w' = w) ∨
  (x.1.dirty = true ∧ e = .returned (.int .i64 (cleanP at_ pg s m).2.2) ∧ WalAt w' p sb mb pl (cleanP at_ pg s m).1 g B sv bv (cleanP at_ pg s m).2.1 ∧
    Mod (fun k => OwnW p sb mb g k ∨ k = q ∨ k = fb) w w' ∧ Blk w' q 113 (poC p g fb mp nf (o.after (cleanP at_ pg s m).2.2)) ∧ FrAt w' fb (framesAfter fs i x (cleanP at_ pg s m).2.2))

theorem mod_set1 (w : World) (b i : Nat) (u : Value) : Mod (fun k => k = b) w (w.setCell ⟨b, i, none⟩ u) := (Mod.refl (fun k => k = b) w).setCell (p := ⟨b, i, none⟩) (fun _ => rfl) u

/-- The end where a step was refused. -/
theorem clean_bad {w w3 : World} {q fb mp nf i p sb mb g B : Nat} {pl : Option Nat} {s s' : DS} {sv bv : Value} {m m' : LG} {o : PO} {fs : List (Fr × FrM)} {x : Fr × FrM} {pg : PG} {at_ k : Int} (hd : x.1.dirty = true) (hc : cleanP at_ pg s m = (s', m', k)) (hk : k ≠ 0)
    (hw : WalAt w3 p sb mb pl s' g B sv bv m') (hm : Mod (OwnW p sb mb g) w w3) (hq : Blk w q 113 (poC p g fb mp nf o)) (hf : FrAt w fb fs) (aq : Apart p sb mb g pl sv bv q) (af : Apart p sb mb g pl sv bv fb) (hqf : q ≠ fb) :
    CleanOut w q fb mp nf i p sb mb g B pl s sv bv m o fs x pg at_ (.returned (.int .i64 k)) (w3.setCell ⟨q, 8, none⟩ (.bool true)) := by
  have h1 : Mod (fun b => b = q) w3 (w3.setCell ⟨q, 8, none⟩ (.bool true)) := mod_set1 _ _ _ _
  refine .inr ⟨hd, by rw [hc], ?_, ?_, ?_, ?_⟩
  · rw [hc]; exact hw.apart h1 (fun b hb => by subst hb; exact aq)
  · exact (hm.mono fun b _ hb => .inl hb).setCell (p := ⟨q, 8, none⟩) (fun _ => .inr (.inl rfl)) _
  · rw [hc]
    have h2 := (hq.mod hm aq.ownW).set_ 8 (.bool true)
    have e : (poC p g fb mp nf o).setIfInBounds 8 (.bool true) = poC p g fb mp nf (o.after k) := by
      unfold PO.after; rw [if_neg hk]; rfl
    rw [e] at h2
    exact h2
  · rw [hc]
    unfold framesAfter
    dsimp only
    rw [if_neg hk]
    have h3 : FrAt w3 fb fs := Blk.mod hf hm af.ownW
    exact Blk.mod h3 h1 (fun e => hqf e.symm)

/-- The end where the page was written. -/
theorem clean_good {w w3 : World} {q fb mp nf i p sb mb g B : Nat} {pl : Option Nat} {s s' : DS} {sv bv : Value} {m m' : LG} {o : PO} {fs : List (Fr × FrM)} {x : Fr × FrM} {pg : PG} {at_ : Int} (hx : fs[i]? = some x) (hd : x.1.dirty = true) (hc : cleanP at_ pg s m = (s', m', 0))
    (hw : WalAt w3 p sb mb pl s' g B sv bv m') (hm : Mod (OwnW p sb mb g) w w3) (hq : Blk w q 113 (poC p g fb mp nf o)) (hf : FrAt w fb fs) (aq : Apart p sb mb g pl sv bv q) (af : Apart p sb mb g pl sv bv fb) (hqf : q ≠ fb) :
    CleanOut w q fb mp nf i p sb mb g B pl s sv bv m o fs x pg at_ (.returned (.int .i64 0)) ((w3.setCell ⟨fb, i * 6 + 3, none⟩ (.bool false)).setCell ⟨q, 7, none⟩ (.bool true)) := by
  have h1 : Mod (fun b => b = q ∨ b = fb) w3 ((w3.setCell ⟨fb, i * 6 + 3, none⟩ (.bool false)).setCell ⟨q, 7, none⟩ (.bool true)) := ((Mod.refl _ _).setCell (p := ⟨fb, i * 6 + 3, none⟩) (fun _ => .inr rfl) _).setCell (p := ⟨q, 7, none⟩) (fun _ => .inl rfl) _
  have hf3 : FrAt w3 fb fs := Blk.mod hf hm af.ownW
  have hf4 : FrAt (w3.setCell ⟨fb, i * 6 + 3, none⟩ (.bool false)) fb (fs.set i ({ x.1 with dirty := false }, x.2)) := hf3.set_ (x' := ({ x.1 with dirty := false }, x.2)) hx (by omega) rfl
  have hq4 : Blk (w3.setCell ⟨fb, i * 6 + 3, none⟩ (.bool false)) q 113 (poC p g fb mp nf o) := (hq.mod hm aq.ownW).mod (mod_set1 _ _ _ _) hqf
  refine .inr ⟨hd, by rw [hc], ?_, ?_, ?_, ?_⟩
  · rw [hc]; exact hw.apart h1 (fun b hb => by rcases hb with e | e <;> subst e; exact aq; exact af)
  · exact ((hm.mono fun b _ hb => .inl hb).setCell (p := ⟨fb, i * 6 + 3, none⟩) (fun _ => .inr (.inr rfl)) _).setCell (p := ⟨q, 7, none⟩) (fun _ => .inr (.inl rfl)) _
  · rw [hc]
    exact hq4.set_ 7 (.bool true)
  · rw [hc]
    exact Blk.mod hf4 (mod_set1 _ _ _ _) (fun e => hqf e.symm)

theorem lsn_v (w : World) (p B : Nat) (v : Value) (xs : List Sl) (m : PG) (ls : Int) (h : PageAt w p B v xs m) (e : ls = m.lsn) : Calls Tryz.prog 37 #[.pointer (some ⟨p, 0, none⟩)] w fun e w' => e = .returned (.int .i64 ls) ∧ w' = w :=
  (pageLSN_any w p B v xs m h).mono fun _ _ ⟨h1, h2⟩ => ⟨by rw [h1, e], h2.symm⟩

theorem safe_v (w : World) (p g B : Nat) (sv bv : Value) (m : LG) (sf : Int) (h : LogAt w p g B sv bv m) (e : sf = (m.lsn m.safe : Int)) : Calls Tryz.prog 38 #[.pointer (some ⟨g, 0, none⟩)] w fun e w' => e = .returned (.int .i64 sf) ∧ w' = w :=
  (logSafe_any w p g B sv bv m h).mono fun _ _ ⟨h1, h2⟩ => ⟨by rw [h1, e], h2⟩

/-- What stands in a world where the log may have been flushed. -/
structure Mid (w W : World) (q fb mp nf i n p sb mb g B Bp : Nat) (pl : Option Nat) (s1 : DS) (sv bv : Value) (m1 : LG) (o : PO) (fs : List (Fr × FrM)) (x : Fr × FrM) (pg : PG) : Prop where
  wal : WalAt W p sb mb pl s1 g B sv bv m1
  turned : Mod (OwnW p sb mb g) w W
  blk : Blk W q 113 (poC p g fb mp nf o)
  page : PageAt W x.2.p Bp x.2.v x.2.xs pg
  c0 : W.cell? ⟨q, 0, none⟩ = some (.pointer (some ⟨p, 0, none⟩))
  c2 : W.cell? ⟨q, 2, none⟩ = some (.int .i64 (o.base : Int))
  f7 : W.frozen? ⟨q, 7, none⟩ = false
  f8 : W.frozen? ⟨q, 8, none⟩ = false
  k0 : W.cell? ⟨fb, i * 6, none⟩ = some (.int .i64 (n : Int))
  k1 : W.cell? ⟨fb, i * 6 + 1, none⟩ = some (.pointer (some ⟨x.2.p, 0, none⟩))
  f3 : W.frozen? ⟨fb, i * 6 + 3, none⟩ = false
  c7 : ∃ v, W.cell? ⟨q, 7, none⟩ = some v
  c8 : ∃ v, W.cell? ⟨q, 8, none⟩ = some v
  k3 : ∃ v, W.cell? ⟨fb, i * 6 + 3, none⟩ = some v

theorem mid {w W : World} {q fb mp nf i n p sb mb g B Bp : Nat} {pl : Option Nat} {s1 : DS} {sv bv : Value} {m1 : LG} {o : PO} {fs : List (Fr × FrM)} {x : Fr × FrM} {pg : PG}
    (h1 : WalAt W p sb mb pl s1 g B sv bv m1) (hm : Mod (OwnW p sb mb g) w W) (hq : Blk w q 113 (poC p g fb mp nf o)) (hf : FrAt w fb fs) (hx : fs[i]? = some x) (hn : x.1.num = (n : Int)) 
    (hpo : x.1.page = some pg) (hpg : PageAt w x.2.p Bp x.2.v x.2.xs pg)
    (aq : Apart p sb mb g pl sv bv q) (af : Apart p sb mb g pl sv bv fb) (ap : ∀ k, (k = x.2.p ∨ x.2.v.ownBlock = some k) → ¬ OwnW p sb mb g k) (ai : ItemsIn (fun k => ¬ OwnW p sb mb g k) x.2.xs pg.items) :
    Mid w W q fb mp nf i n p sb mb g B Bp pl s1 sv bv m1 o fs x pg := by
  have hq1 := hq.mod hm aq.ownW
  have hf1 : FrAt W fb fs := Blk.mod hf hm af.ownW
  have e0 := hf1.cell hx 0 (.int .i64 (n : Int)) (by rw [← hn]; rfl)
  rw [Nat.add_zero] at e0
  exact ⟨h1, hm, hq1, hpg.mod hm (ap _ (.inl rfl)) (fun b hb => ap _ (.inr hb)) (ai.off fun k hk e => e hk), hq1.cell 0, hq1.cell 2, hq1.frozen 7, hq1.frozen 8, e0, hf1.cell hx 1 _ (by unfold encFr; rw [hpo]; rfl), Blk.frozen hf1 _, ⟨_, hq1.cell 7⟩, ⟨_, hq1.cell 8⟩, ⟨_, hf1.cell hx 3 _ rfl⟩⟩

theorem off_new512 {w : World} {p gB : Nat} {l : List Nat} (hp : p < w.heap.size) (hg : w.heap.size ≤ gB) : Off (fun k => k = p) (.slice (some ⟨gB, 0, none⟩) 512 512) l := .inr fun b hb e => by
  simp only [Value.ownBlock] at hb
  injection hb with hb
  omega

theorem Mid.written {w W W' : World} {q fb mp nf i n p sb mb g B Bp : Nat} {pl : Option Nat} {s1 s2 : DS} {sv bv : Value} {m1 : LG} {o : PO} {fs : List (Fr × FrM)} {x : Fr × FrM} {pg : PG}
    (h : Mid w W q fb mp nf i n p sb mb g B Bp pl s1 sv bv m1 o fs x pg) (hd : DiskAt W' p sb mb pl s2) (hm : Mod (Own p sb mb) W W') (hq : Blk w q 113 (poC p g fb mp nf o)) (hf : FrAt w fb fs) (hx : fs[i]? = some x) (hn : x.1.num = (n : Int)) 
    (hpo : x.1.page = some pg) (hpg : PageAt w x.2.p Bp x.2.v x.2.xs pg)
    (aq : Apart p sb mb g pl sv bv q) (af : Apart p sb mb g pl sv bv fb) (ap : ∀ k, (k = x.2.p ∨ x.2.v.ownBlock = some k) → ¬ OwnW p sb mb g k) (ai : ItemsIn (fun k => ¬ OwnW p sb mb g k) x.2.xs pg.items) :
    Mid w W' q fb mp nf i n p sb mb g B Bp pl s2 sv bv m1 o fs x pg :=
  mid ⟨hd, h.wal.log hm, h.wal.sep, h.wal.pl⟩ (h.turned.trans hm fun k _ hk => .inl hk) hq hf hx hn hpo hpg aq af ap ai

set_option maxRecDepth 100000 in
set_option maxHeartbeats 4000000 in
theorem clean_any (w : World) (q fb mp nf i n at_ p sb mb g B Bp : Nat) (pl : Option Nat) (s : DS) (sv bv : Value) (m : LG) (o : PO) (fs : List (Fr × FrM)) (x : Fr × FrM) (pg : PG)
    (hw : WalAt w p sb mb pl s g B sv bv m) (hq : Blk w q 113 (poC p g fb mp nf o)) (hf : FrAt w fb fs) (hx : fs[i]? = some x) (hn : x.1.num = (n : Int)) (hat : at_ = o.base + n) (hat6 : at_ ≤ 1000000)
    (hpo : x.1.page = some pg) (hpg : PageAt w x.2.p Bp x.2.v x.2.xs pg) (hfit : pg.Fit)
    (aq : Apart p sb mb g pl sv bv q) (af : Apart p sb mb g pl sv bv fb) (ap : ∀ k, (k = x.2.p ∨ x.2.v.ownBlock = some k) → ¬ OwnW p sb mb g k) (ai : ItemsIn (fun k => ¬ OwnW p sb mb g k) x.2.xs pg.items) (hqf : q ≠ fb)
    (hst : s.steps < 1000000000000000) (hst2 : (flushP pg s m).1.steps < 4611686018427387904) :
    Calls Tryz.prog 69 #[.pointer (some ⟨q, 0, none⟩), .pointer (some ⟨fb, i * 6, none⟩)] w (CleanOut w q fb mp nf i p sb mb g B pl s sv bv m o fs x pg (at_ : Int)) := by
  have k0 : w.cell? ⟨fb, i * 6 + 0, none⟩ = some (.int .i64 (n : Int)) := hf.cell hx 0 _ (by rw [← hn]; rfl)
  have k1 : w.cell? ⟨fb, i * 6 + 1, none⟩ = some (.pointer (some ⟨x.2.p, 0, none⟩)) := hf.cell hx 1 _ (by unfold encFr; rw [hpo]; rfl)
  have k3 : w.cell? ⟨fb, i * 6 + 3, none⟩ = some (.bool x.1.dirty) := hf.cell hx 3 _ rfl
  rw [Nat.add_zero] at k0
  have c0 : w.cell? ⟨q, 0, none⟩ = some (.pointer (some ⟨p, 0, none⟩)) := hq.cell 0
  have c1 : w.cell? ⟨q, 1, none⟩ = some (.pointer (some ⟨g, 0, none⟩)) := hq.cell 1
  have c2 : w.cell? ⟨q, 2, none⟩ = some (.int .i64 (o.base : Int)) := hq.cell 2
  have H := Lib.hid hw
  have HQ := Lib.hid hq
  have HFR := Lib.hid hf
  have HX := Lib.hid hx
  have HPG := Lib.hid hpg
  have HFIT := Lib.hid hfit
  have AQ := Lib.hid aq
  have AF := Lib.hid af
  have AP := Lib.hid ap
  have AI := Lib.hid ai
  have HST := Lib.hid hst
  have HST2 := Lib.hid hst2
  have HQF := Lib.hid hqf
  obtain ⟨d, hd⟩ : ∃ d, d = x.1.dirty := ⟨_, rfl⟩
  obtain ⟨pp, hpp⟩ : ∃ pp, pp = x.2.p := ⟨_, rfl⟩
  obtain ⟨bs, hbs⟩ : ∃ bs, bs = o.base := ⟨_, rfl⟩
  rw [← hd] at k3
  rw [← hpp] at k1
  rw [← hbs] at c2
  have HD := Lib.hid hd
  have HPP := Lib.hid hpp
  have HBS := Lib.hid hbs
  have hwr : IntKind.i64.wrap ((bs : Int) + (n : Int)) = (at_ : Int) := by rw [IntKind.wrap_i64]; omega
  have HNN := Lib.hid hn
  have HPO := Lib.hid hpo
  clear hw hq hf hx hn hpo hpg hfit aq af ap ai hst hst2 hqf hd hpp hat hbs
  cases d with
  | false =>
    go_enter Tryz.func69, Tryz.ntmps69
    go_wp2_with fail
    go_ret
    exact .inl ⟨HD.out.symm, rfl, rfl⟩
  | true =>
    obtain ⟨ls, hls⟩ : ∃ ls, ls = pg.lsn := ⟨_, rfl⟩
    obtain ⟨sf, hsf⟩ : ∃ sf : Int, sf = (m.lsn m.safe : Int) := ⟨_, rfl⟩
    have HLS := Lib.hid hls
    have HSF := Lib.hid hsf
    clear hls hsf
    by_cases hc : sf ≤ ls
    · have HFP : Hid (flushP pg s m = m.flush s) := Lib.hid (by unfold flushP; rw [← HLS.out, ← HSF.out, if_pos hc])
      obtain ⟨F, hF⟩ : ∃ F, F = m.flush s := ⟨_, rfl⟩
      have HF := Lib.hid hF
      clear hF
      obtain ⟨fk, hfk⟩ : ∃ fk, fk = F.2.2 := ⟨_, rfl⟩
      have HFK := Lib.hid hfk
      clear hfk
      by_cases hk : fk = 0
      · subst hk
        go_enter Tryz.func69, Tryz.ntmps69
        go_wp2_with fail
        go_quiet (first
          | (go_at_call 37; exact Calls.quiet_of_same (lsn_v _ pp Bp x.2.v x.2.xs pg ls (by rw [HPP.out]; exact HPG.out.drewN _) HLS.out))
          | (go_at_call 38; exact Calls.quiet_of_same (safe_v _ p g B sv bv m sf (H.out.below (below_drewN (Below.refl _ _) _)).lg HSF.out)))
        go_upto_region 7 with (first
          | (go_at_call 58; refine (Flush_any _ p sb mb g B pl s sv bv m (H.out.below (below_drewN (Below.refl _ _) _)) HST.out).mono ?_; rintro e w1 ⟨rfl, h1, hm1⟩; rw [← HF.out] at h1; rw [← HF.out, ← HFK.out]; have H1 : Hid (Mid w w1 q fb mp nf i n p sb mb g B Bp pl F.1 sv bv F.2.1 o fs x pg) := Lib.hid (mid h1 ⟨hm1.os, hm1.tape, hm1.output, hm1.size, hm1.block⟩ HQ.out HFR.out HX.out HNN.out HPO.out HPG.out AQ.out AF.out AP.out AI.out); clear h1 hm1)
          | fail)
        have S1 : Hid (F.1.steps < 4611686018427387904) := Lib.hid (by have := HST2.out; rw [HFP.out] at this; rw [← HF.out] at this; exact this)
        have d0 := H1.out.c0
        have d2 := H1.out.c2
        have e0 := H1.out.k0
        have e1 := H1.out.k1
        rw [← HBS.out] at d2
        rw [← HPP.out] at e1
        obtain ⟨we, hwe⟩ : ∃ we, we = F.1.writeE (at_ : Int) (pageL pg) := ⟨_, rfl⟩
        have HWE := Lib.hid hwe
        clear hwe
        go_cut [5] from 29 (fun x wx => x = .int .i64 we ∧ Hid (DiskAt wx p sb mb pl (F.1.write (at_ : Int) (pageL pg))) ∧ Hid (Mod (Own p sb mb) w1 wx))
        case first =>
          go_region_law (first
            | (go_simp; go_at_call 24; refine (pageBytes_any w1.drew pp Bp x.2.v x.2.xs pg (by rw [HPP.out]; exact H1.out.page.below (Below.refl _ _).drew) HFIT.out).mono ?_; rintro e w2 ⟨gB, rfl, hg, hbb, hb2⟩; have HB2 : Hid (Below w1.heap.size w1 w2) := Lib.hid ⟨hb2.os, hb2.tape, hb2.output, hb2.size, hb2.block⟩; have HG : Hid (w1.heap.size ≤ gB) := Lib.hid hg; have HBB := Lib.hid hbb; clear hg hbb hb2; have d02 : w2.cell? ⟨q, 0, none⟩ = some (.pointer (some ⟨p, 0, none⟩)) := (H1.out.blk.below HB2.out H1.out.blk.lt).cell 0; have d22 : w2.cell? ⟨q, 2, none⟩ = some (.int .i64 (bs : Int)) := (by rw [HBS.out]; exact (H1.out.blk.below HB2.out H1.out.blk.lt).cell 2); have e02 : w2.cell? ⟨fb, i * 6, none⟩ = some (.int .i64 (n : Int)) := (by rw [HB2.out.cell (p := ⟨fb, i * 6, none⟩) (World.block_lt_of_cell? w1 _ e0)]; exact e0))
            | (go_simp; go_at_call 99; refine (Write_any w2 p sb mb pl F.1 (at_ : Int) _ (pageL pg) (H1.out.wal.dk.below HB2.out) S1.out (HBB.out.row512 (pageL_len HFIT.out)) (off_new512 H1.out.wal.dk.lt.1 HG.out)).mono ?_; rintro e w3 ⟨rfl, hd3, hm3⟩; rw [← HWE.out]; have HD3 := Lib.hid hd3; have HM3 : Hid (Mod (Own p sb mb) w1 w3) := Lib.hid ((Mod.of_below HB2.out _).trans' hm3); clear hd3 hm3))
          all_goals (
            go_wp2_with fail
            go_meet
            exact ⟨rfl, HD3, HM3⟩)
        case rest =>
        obtain ⟨rfl, HD3, HM3⟩ := hcut
        have H3 := Lib.hid (H1.out.written HD3.out HM3.out HQ.out HFR.out HX.out HNN.out HPO.out HPG.out AQ.out AF.out AP.out AI.out)
        clear d0 d2 e0 e1
        by_cases hw0 : we = 0
        · subst hw0
          obtain ⟨v7, c73⟩ := H3.out.c7
          obtain ⟨v3, c33⟩ := H3.out.k3
          have f73 := H3.out.f7
          have f33 := H3.out.f3
          have hq4 := H3.out.blk.mod (mod_set1 wc fb (i * 6 + 3) (.bool false)) HQF.out
          have c74 := hq4.cell 7
          have f74 := hq4.frozen 7
          clear hq4
          go_wp2_with fail
          go_ret
          exact clean_good HX.out HD.out.symm (by unfold cleanP; rw [HFP.out]; rw [← HF.out, ← HFK.out, if_pos rfl, ← HWE.out]) H3.out.wal H3.out.turned HQ.out HFR.out AQ.out AF.out HQF.out
        · have hw1 : (we == 0) = false := by simpa using hw0
          have hw2 : (we != 0) = true := by simpa using hw0
          have HW0 := Lib.hid hw0
          clear hw0
          obtain ⟨v8, c83⟩ := H3.out.c8
          have f83 := H3.out.f8
          go_wp2_with fail
          go_ret
          exact clean_bad HD.out.symm (by unfold cleanP; rw [HFP.out]; rw [← HF.out, ← HFK.out, if_pos rfl, ← HWE.out]) HW0.out H3.out.wal H3.out.turned HQ.out HFR.out AQ.out AF.out HQF.out
      · have hk1 : (fk == 0) = false := by simpa using hk
        have hk2 : (fk != 0) = true := by simpa using hk
        have HK := Lib.hid hk
        clear hk
        go_enter Tryz.func69, Tryz.ntmps69
        go_wp2_with fail
        go_quiet (first
          | (go_at_call 37; exact Calls.quiet_of_same (lsn_v _ pp Bp x.2.v x.2.xs pg ls (by rw [HPP.out]; exact HPG.out.drewN _) HLS.out))
          | (go_at_call 38; exact Calls.quiet_of_same (safe_v _ p g B sv bv m sf (H.out.below (below_drewN (Below.refl _ _) _)).lg HSF.out)))
        go_wp2_with (first
          | (go_at_call 58; refine (Flush_any _ p sb mb g B pl s sv bv m (H.out.below (below_drewN (Below.refl _ _) _)) HST.out).mono ?_; rintro e w1 ⟨rfl, h1, hm1⟩; rw [← HF.out] at h1; rw [← HF.out, ← HFK.out]; have H1 : Hid (Mid w w1 q fb mp nf i n p sb mb g B Bp pl F.1 sv bv F.2.1 o fs x pg) := Lib.hid (mid h1 ⟨hm1.os, hm1.tape, hm1.output, hm1.size, hm1.block⟩ HQ.out HFR.out HX.out HNN.out HPO.out HPG.out AQ.out AF.out AP.out AI.out); clear h1 hm1; obtain ⟨v8, c81⟩ := H1.out.c8; have f81 := H1.out.f8)
          | fail)
        go_ret
        exact clean_bad HD.out.symm (by unfold cleanP; rw [HFP.out, ← HF.out, ← HFK.out, if_neg HK.out, HFK.out]) HK.out H1.out.wal H1.out.turned HQ.out HFR.out AQ.out AF.out HQF.out
    · have hc1 : (decide (sf ≤ ls)) = false := by simpa using hc
      have HFP : Hid (flushP pg s m = (s, m, 0)) := Lib.hid (by unfold flushP; rw [← HLS.out, ← HSF.out, if_neg hc])
      go_enter Tryz.func69, Tryz.ntmps69
      go_wp2_with fail
      go_quiet (first
        | (go_at_call 37; exact Calls.quiet_of_same (lsn_v _ pp Bp x.2.v x.2.xs pg ls (by rw [HPP.out]; exact HPG.out.drewN _) HLS.out))
        | (go_at_call 38; exact Calls.quiet_of_same (safe_v _ p g B sv bv m sf (H.out.below (below_drewN (Below.refl _ _) _)).lg HSF.out)))
      go_upto_region 7 with fail
      obtain ⟨w1, hw1⟩ : ∃ w1, w1 = w.drewN nq := ⟨_, rfl⟩
      have H1 : Hid (Mid w w1 q fb mp nf i n p sb mb g B Bp pl s sv bv m o fs x pg) := Lib.hid (by rw [hw1]; exact mid (H.out.below (below_drewN (Below.refl _ _) _)) (Mod.of_below (below_drewN (Below.refl _ _) _) _) HQ.out HFR.out HX.out HNN.out HPO.out HPG.out AQ.out AF.out AP.out AI.out)
      rw [← hw1]
      clear hw1
      have S1 : Hid (s.steps < 4611686018427387904) := Lib.hid (by have := HST2.out; rw [HFP.out] at this; exact this)
      have d0 := H1.out.c0
      have d2 := H1.out.c2
      have e0 := H1.out.k0
      have e1 := H1.out.k1
      rw [← HBS.out] at d2
      rw [← HPP.out] at e1
      obtain ⟨we, hwe⟩ : ∃ we, we = s.writeE (at_ : Int) (pageL pg) := ⟨_, rfl⟩
      have HWE := Lib.hid hwe
      clear hwe
      go_cut [5] from 29 (fun x wx => x = .int .i64 we ∧ Hid (DiskAt wx p sb mb pl (s.write (at_ : Int) (pageL pg))) ∧ Hid (Mod (Own p sb mb) w1 wx))
      case first =>
        go_region_law (first
          | (go_simp; go_at_call 24; refine (pageBytes_any w1.drew pp Bp x.2.v x.2.xs pg (by rw [HPP.out]; exact H1.out.page.below (Below.refl _ _).drew) HFIT.out).mono ?_; rintro e w2 ⟨gB, rfl, hg, hbb, hb2⟩; have HB2 : Hid (Below w1.heap.size w1 w2) := Lib.hid ⟨hb2.os, hb2.tape, hb2.output, hb2.size, hb2.block⟩; have HG : Hid (w1.heap.size ≤ gB) := Lib.hid hg; have HBB := Lib.hid hbb; clear hg hbb hb2; have d02 : w2.cell? ⟨q, 0, none⟩ = some (.pointer (some ⟨p, 0, none⟩)) := (H1.out.blk.below HB2.out H1.out.blk.lt).cell 0; have d22 : w2.cell? ⟨q, 2, none⟩ = some (.int .i64 (bs : Int)) := (by rw [HBS.out]; exact (H1.out.blk.below HB2.out H1.out.blk.lt).cell 2); have e02 : w2.cell? ⟨fb, i * 6, none⟩ = some (.int .i64 (n : Int)) := (by rw [HB2.out.cell (p := ⟨fb, i * 6, none⟩) (World.block_lt_of_cell? w1 _ e0)]; exact e0))
          | (go_simp; go_at_call 99; refine (Write_any w2 p sb mb pl s (at_ : Int) _ (pageL pg) (H1.out.wal.dk.below HB2.out) S1.out (HBB.out.row512 (pageL_len HFIT.out)) (off_new512 H1.out.wal.dk.lt.1 HG.out)).mono ?_; rintro e w3 ⟨rfl, hd3, hm3⟩; rw [← HWE.out]; have HD3 := Lib.hid hd3; have HM3 : Hid (Mod (Own p sb mb) w1 w3) := Lib.hid ((Mod.of_below HB2.out _).trans' hm3); clear hd3 hm3))
        all_goals (
          go_wp2_with fail
          go_meet
          exact ⟨rfl, HD3, HM3⟩)
      case rest =>
      obtain ⟨rfl, HD3, HM3⟩ := hcut
      have H3 := Lib.hid (H1.out.written HD3.out HM3.out HQ.out HFR.out HX.out HNN.out HPO.out HPG.out AQ.out AF.out AP.out AI.out)
      clear d0 d2 e0 e1
      by_cases hw0 : we = 0
      · subst hw0
        obtain ⟨v7, c73⟩ := H3.out.c7
        obtain ⟨v3, c33⟩ := H3.out.k3
        have f73 := H3.out.f7
        have f33 := H3.out.f3
        have hq4 := H3.out.blk.mod (mod_set1 wc fb (i * 6 + 3) (.bool false)) HQF.out
        have c74 := hq4.cell 7
        have f74 := hq4.frozen 7
        clear hq4
        go_wp2_with fail
        go_ret
        exact clean_good HX.out HD.out.symm (by unfold cleanP; rw [HFP.out]; rw [if_pos rfl, ← HWE.out]) H3.out.wal H3.out.turned HQ.out HFR.out AQ.out AF.out HQF.out
      · have hw1 : (we == 0) = false := by simpa using hw0
        have hw2 : (we != 0) = true := by simpa using hw0
        have HW0 := Lib.hid hw0
        clear hw0
        obtain ⟨v8, c83⟩ := H3.out.c8
        have f83 := H3.out.f8
        go_wp2_with fail
        go_ret
        exact clean_bad HD.out.symm (by unfold cleanP; rw [HFP.out]; rw [if_pos rfl, ← HWE.out]) HW0.out H3.out.wal H3.out.turned HQ.out HFR.out AQ.out AF.out HQF.out
end Go.Proofs.YtbagmmncjmbboaaGreat

/-
  A pool's frames in plain words: the frame that holds a page, and what another frame in its place does to that. No walk.
-/
namespace Go.Proofs.YtbagmmncjmbboaaGreat
open Go.RowKit Go.Maps
set_option linter.unusedVariables false

/-- A frame that holds page n. -/
def isAt (n : Int) (x : Fr × FrM) : Bool := x.1.page.isSome && decide (x.1.num = n)

theorem isAt_yes {n : Int} {x : Fr × FrM} : isAt n x = true ↔ x.1.page.isSome = true ∧ x.1.num = n := by unfold isAt; simp

/-- Where page n is held. -/
def idx : List (Fr × FrM) → Int → Option Nat
  | [], _ => none
  | x :: r, n => if isAt n x = true then some 0 else (idx r n).map (· + 1)

/-- No page is held twice. -/
def Uniq (fs : List (Fr × FrM)) : Prop := ∀ (i j : Nat) x y, fs[i]? = some x → fs[j]? = some y → x.1.page.isSome = true → y.1.page.isSome = true → x.1.num = y.1.num → i = j

theorem idx_some : ∀ {fs : List (Fr × FrM)} {n : Int} {i : Nat}, idx fs n = some i → ∃ x, fs[i]? = some x ∧ isAt n x = true
  | [], _, _, h => by cases h
  | x :: r, n, i, h => by
    unfold idx at h
    by_cases hx : isAt n x = true
    · rw [if_pos hx] at h
      injection h with h; subst h
      exact ⟨x, rfl, hx⟩
    · rw [if_neg hx] at h
      cases hr : idx r n with
      | none => rw [hr] at h; cases h
      | some k =>
        rw [hr] at h
        injection h with h; subst h
        obtain ⟨y, h1, h2⟩ := idx_some hr
        exact ⟨y, by simpa using h1, h2⟩

theorem idx_none : ∀ {fs : List (Fr × FrM)} {n : Int}, idx fs n = none ↔ ∀ (i : Nat) x, fs[i]? = some x → isAt n x = false
  | [], n => by simp [idx]
  | x :: r, n => by
    unfold idx
    by_cases hx : isAt n x = true
    · rw [if_pos hx]
      constructor
      · intro h; cases h
      · intro h; have := h 0 x rfl; rw [hx] at this; cases this
    · rw [if_neg hx, Option.map_eq_none_iff, idx_none]
      constructor
      · intro h i y hy
        cases i with
        | zero => simp at hy; subst hy; simpa using hx
        | succ i => exact h i y (by simpa using hy)
      · intro h i y hy
        exact h (i + 1) y (by simpa using hy)

theorem idx_of {fs : List (Fr × FrM)} (hu : Uniq fs) {n : Int} {i : Nat} {x : Fr × FrM} (hx : fs[i]? = some x) (hn : isAt n x = true) : idx fs n = some i := by
  cases h : idx fs n with
  | none => have := idx_none.1 h i x hx; rw [hn] at this; cases this
  | some j =>
    obtain ⟨y, h1, h2⟩ := idx_some h
    have a := isAt_yes.1 hn
    have b := isAt_yes.1 h2
    rw [hu i j x y hx h1 a.1 b.1 (by rw [a.2, b.2])]

theorem set_at {α : Type} {fs : List α} {i j : Nat} {x y z : α} (hx : fs[i]? = some x) (h : (fs.set i y)[j]? = some z) : (j = i ∧ z = y) ∨ (j ≠ i ∧ fs[j]? = some z) := by
  have hi := (List.getElem?_eq_some_iff.1 hx).1
  by_cases e : j = i
  · subst e
    rw [List.getElem?_set_self hi] at h
    injection h with h
    exact .inl ⟨rfl, h.symm⟩
  · rw [List.getElem?_set_ne (fun e' => e e'.symm)] at h
    exact .inr ⟨e, h⟩

theorem set_self {α : Type} {fs : List α} {i : Nat} {x y : α} (hx : fs[i]? = some x) : (fs.set i y)[i]? = some y := List.getElem?_set_self (List.getElem?_eq_some_iff.1 hx).1

theorem set_other {α : Type} {fs : List α} {i j : Nat} {y z : α} (h : fs[j]? = some z) (e : j ≠ i) : (fs.set i y)[j]? = some z := by
  rw [List.getElem?_set_ne (fun e' => e e'.symm)]; exact h

/-- Another frame in its place that holds the same page. -/
theorem Uniq.same {fs : List (Fr × FrM)} (hu : Uniq fs) {i : Nat} {x y : Fr × FrM} (hx : fs[i]? = some x) (hp : y.1.page.isSome = true → x.1.page.isSome = true) (hn : y.1.num = x.1.num) : Uniq (fs.set i y) := by
  intro a b u v hu1 hv1 h1 h2 h3
  rcases set_at hx hu1 with ⟨rfl, rfl⟩ | ⟨ha, hu3⟩ <;> rcases set_at hx hv1 with ⟨rfl, rfl⟩ | ⟨hb, hv3⟩
  · rfl
  · exact hu a b x v hx hv3 (hp h1) h2 (by rw [← hn]; exact h3)
  · exact hu a b u x hu3 hx h1 (hp h2) (by rw [← hn]; exact h3)
  · exact hu a b u v hu3 hv3 h1 h2 h3

/-- .. that holds a page which was held nowhere. -/
theorem Uniq.fresh {fs : List (Fr × FrM)} (hu : Uniq fs) {i : Nat} {x y : Fr × FrM} (hx : fs[i]? = some x) (hn : idx fs y.1.num = none) : Uniq (fs.set i y) := by
  intro a b u v hu1 hv1 h1 h2 h3
  have hno := idx_none.1 hn
  rcases set_at hx hu1 with ⟨rfl, rfl⟩ | ⟨ha, hu3⟩ <;> rcases set_at hx hv1 with ⟨rfl, rfl⟩ | ⟨hb, hv3⟩
  · rfl
  · have h4 := hno b v hv3
    rw [isAt_yes.2 ⟨h2, h3.symm⟩] at h4; cases h4
  · have h4 := hno a u hu3
    rw [isAt_yes.2 ⟨h1, h3⟩] at h4; cases h4
  · exact hu a b u v hu3 hv3 h1 h2 h3

theorem idx_set {fs : List (Fr × FrM)} (hu : Uniq fs) {i : Nat} {x y : Fr × FrM} (hx : fs[i]? = some x) (hu2 : Uniq (fs.set i y)) (m : Int) :
    idx (fs.set i y) m = if isAt m y = true then some i else if isAt m x = true then none else idx fs m := by
  by_cases h1 : isAt m y = true
  · rw [if_pos h1]; exact idx_of hu2 (set_self hx) h1
  · rw [if_neg h1]
    by_cases h2 : isAt m x = true
    · rw [if_pos h2, idx_none]
      intro j z hz
      rcases set_at hx hz with ⟨rfl, rfl⟩ | ⟨hj, hz⟩
      · simpa using h1
      · cases h3 : isAt m z with
        | false => rfl
        | true =>
          have a := isAt_yes.1 h2
          have b := isAt_yes.1 h3
          exact absurd (hu j i z x hz hx b.1 a.1 (by rw [a.2, b.2])) hj
    · rw [if_neg h2]
      cases h3 : idx fs m with
      | none =>
        rw [idx_none]
        intro j z hz
        rcases set_at hx hz with ⟨rfl, rfl⟩ | ⟨hj, hz⟩
        · simpa using h1
        · exact idx_none.1 h3 j z hz
      | some j =>
        obtain ⟨z, h4, h5⟩ := idx_some h3
        have hj : j ≠ i := by
          rintro rfl
          rw [hx] at h4
          injection h4 with h4
          rw [h4] at h2
          exact h2 h5
        exact idx_of hu2 (set_other h4 hj) h5

/-- The frame that holds page n. -/
def fr (fs : List (Fr × FrM)) (n : Int) : Option Fr := (idx fs n).bind fun i => (fs[i]?).map (·.1)

theorem fr_of {fs : List (Fr × FrM)} (hu : Uniq fs) {n : Int} {i : Nat} {x : Fr × FrM} (hx : fs[i]? = some x) (hn : isAt n x = true) : fr fs n = some x.1 := by
  unfold fr; rw [idx_of hu hx hn]; simp [hx]

theorem fr_some {fs : List (Fr × FrM)} {n : Int} {y : Fr} (h : fr fs n = some y) : ∃ i x, idx fs n = some i ∧ fs[i]? = some x ∧ isAt n x = true ∧ x.1 = y := by
  unfold fr at h
  cases hi : idx fs n with
  | none => rw [hi] at h; cases h
  | some i =>
    obtain ⟨x, h1, h2⟩ := idx_some hi
    rw [hi] at h
    simp [h1] at h
    exact ⟨i, x, rfl, h1, h2, h⟩

theorem fr_none {fs : List (Fr × FrM)} {n : Int} : fr fs n = none ↔ idx fs n = none := by
  constructor
  · intro h
    cases hi : idx fs n with
    | none => rfl
    | some i =>
      obtain ⟨x, h1, h2⟩ := idx_some hi
      unfold fr at h
      rw [hi] at h
      simp [h1] at h
  · intro h; unfold fr; rw [h]; rfl

theorem fr_set {fs : List (Fr × FrM)} (hu : Uniq fs) {i : Nat} {x y : Fr × FrM} (hx : fs[i]? = some x) (hu2 : Uniq (fs.set i y)) (m : Int) :
    fr (fs.set i y) m = if isAt m y = true then some y.1 else if isAt m x = true then none else fr fs m := by
  by_cases h1 : isAt m y = true
  · rw [if_pos h1]; exact fr_of hu2 (set_self hx) h1
  · rw [if_neg h1]
    by_cases h2 : isAt m x = true
    · rw [if_pos h2, fr_none, idx_set hu hx hu2, if_neg h1, if_pos h2]
    · rw [if_neg h2]
      unfold fr
      rw [idx_set hu hx hu2, if_neg h1, if_neg h2]
      cases h3 : idx fs m with
      | none => rfl
      | some j =>
        obtain ⟨z, h4, h5⟩ := idx_some h3
        have hj : j ≠ i := by
          rintro rfl
          rw [hx] at h4
          injection h4 with h4
          rw [h4] at h2
          exact h2 h5
        show ((fs.set i y)[j]?).map (·.1) = (fs[j]?).map (·.1)
        rw [List.getElem?_set_ne (fun e => hj e.symm)]

/-- How often page n is pinned. -/
def pinsOf (fs : List (Fr × FrM)) (n : Int) : Nat := (fr fs n).elim 0 (·.pins)

/-- Page n, if it is dirty: with which LSN it became so. -/
def dirtOf (fs : List (Fr × FrM)) (n : Int) : Option Int := (fr fs n).bind fun x => if x.dirty = true then some x.recl else none

/-- The numbers of the pages that are held. -/
def keysOf (fs : List (Fr × FrM)) : List Int := (fs.filter fun x => x.1.page.isSome).map (·.1.num)

theorem keys_mem {fs : List (Fr × FrM)} {n : Int} : n ∈ keysOf fs ↔ (idx fs n).isSome = true := by
  unfold keysOf
  rw [List.mem_map]
  constructor
  · rintro ⟨x, hx, rfl⟩
    rw [List.mem_filter] at hx
    obtain ⟨i, hi⟩ := List.mem_iff_getElem?.1 hx.1
    cases h : idx fs x.1.num with
    | some _ => rfl
    | none =>
      have := idx_none.1 h i x hi
      rw [isAt_yes.2 ⟨hx.2, rfl⟩] at this; cases this
  · intro h
    obtain ⟨i, hi⟩ := Option.isSome_iff_exists.1 h
    obtain ⟨x, h1, h2⟩ := idx_some hi
    have := isAt_yes.1 h2
    exact ⟨x, List.mem_filter.2 ⟨List.mem_of_getElem? h1, this.1⟩, this.2⟩

theorem Uniq.tail {x : Fr × FrM} {r : List (Fr × FrM)} (h : Uniq (x :: r)) : Uniq r := by
  intro i j a b ha hb h1 h2 h3
  have := h (i + 1) (j + 1) a b (by simpa using ha) (by simpa using hb) h1 h2 h3
  omega

theorem keys_nodup : ∀ {fs : List (Fr × FrM)}, Uniq fs → (keysOf fs).Nodup
  | [], _ => by simp [keysOf]
  | x :: r, h => by
    have ih := keys_nodup h.tail
    unfold keysOf at ih ⊢
    by_cases hx : x.1.page.isSome = true
    · rw [List.filter_cons_of_pos (by simpa using hx), List.map_cons, List.nodup_cons]
      refine ⟨?_, ih⟩
      intro hm
      obtain ⟨y, hy, e⟩ := List.mem_map.1 hm
      rw [List.mem_filter] at hy
      obtain ⟨i, hi⟩ := List.mem_iff_getElem?.1 hy.1
      have := h 0 (i + 1) x y rfl (by simpa using hi) hx hy.2 e.symm
      omega
    · rw [List.filter_cons_of_neg (by simpa using hx)]
      exact ih

theorem keys_len (fs : List (Fr × FrM)) : (keysOf fs).length ≤ fs.length := by
  unfold keysOf
  rw [List.length_map]
  exact List.length_filter_le _ _
end Go.Proofs.YtbagmmncjmbboaaGreat
