/-
  The walks of Edge and Along.
-/
import Derived.Test.YtlhkajlkapoabaaLK20
namespace Go.Proofs.Ytlhkajlkapoabaa
open Go.RowKit Go.Maps
set_option linter.unusedVariables false

attribute [local go_sem] run_storeC

theorem ret_cell_tmp {fn : Func} {p u : Tmp} {ty : TypeId} {a : Act} {w : World} {post : Ending → World → Prop} {A : Addr} {v x : Value} (hr : fn.results = #[.cell p ty, .tmp u]) (hp : a.tmps.getD p undef = .pointer (some A)) (hu : a.tmps.getD u undef = x)
    (hl : (loadVar ty A).run Try.prog w = .ok v w) (hd : a.defers = []) (h : post (.returned (.tuple #[v, x])) w) : bodyPost Try.prog fn post .ret a w := by
  refine bodyPost_ret (v := .tuple #[v, x]) ?_ hd h
  rw [results_cell_tmp hr, hp, hu]
  simp [asAddr, hl]

def egC (e : Eg) : Array Value := #[.int .i64 e.id, .int .i64 e.u, .int .i64 e.v, .int .i64 (e.w : Int)]

def agC (e : Eg) (re im : Nat) : Array Value := #[.int .i64 e.id, .int .i64 e.u, .int .i64 e.v, .int .i64 (e.w : Int), .complex .f64 re im]

theorem egC_set (m : Eg) (i u v x : Int) (n : Nat) (hx : x = (n : Int)) : ((((egC m).setIfInBounds 0 (.int .i64 i)).setIfInBounds 1 (.int .i64 u)).setIfInBounds 2 (.int .i64 v)).setIfInBounds 3 (.int .i64 x) = egC ⟨i, u, v, n⟩ := by subst hx; simp [egC]

theorem agC_set (m : Eg) (c d re im : Nat) (i u v x : Int) (n : Nat) (hx : x = (n : Int)) : (((((agC m c d).setIfInBounds 0 (.int .i64 i)).setIfInBounds 1 (.int .i64 u)).setIfInBounds 2 (.int .i64 v)).setIfInBounds 3 (.int .i64 x)).setIfInBounds 4 (.complex .f64 re im) = agC ⟨i, u, v, n⟩ re im := by subst hx; simp [agC]

theorem load_eg {w : World} {g : Nat} {m : Eg} (h : Blk w g 33 (egC m)) : (loadVar 33 ⟨g, 0, none⟩).run Try.prog w = .ok m.val w := by
  have c0 : w.cell? ⟨g, 0, none⟩ = some (.int .i64 m.id) := h.cell 0
  have c1 : w.cell? ⟨g, 1, none⟩ = some (.int .i64 m.u) := h.cell 1
  have c2 : w.cell? ⟨g, 2, none⟩ = some (.int .i64 m.v) := h.cell 2
  have c3 : w.cell? ⟨g, 3, none⟩ = some (.int .i64 (m.w : Int)) := h.cell 3
  unfold Eg.val
  go_simp

theorem load_ag {w : World} {g : Nat} {m : Eg} {re im : Nat} (h : Blk w g 48 (agC m re im)) : (loadVar 48 ⟨g, 0, none⟩).run Try.prog w = .ok (.agg (agC m re im)) w := by
  have c0 : w.cell? ⟨g, 0, none⟩ = some (.int .i64 m.id) := h.cell 0
  have c1 : w.cell? ⟨g, 1, none⟩ = some (.int .i64 m.u) := h.cell 1
  have c2 : w.cell? ⟨g, 2, none⟩ = some (.int .i64 m.v) := h.cell 2
  have c3 : w.cell? ⟨g, 3, none⟩ = some (.int .i64 (m.w : Int)) := h.cell 3
  have c4 : w.cell? ⟨g, 4, none⟩ = some (.complex .f64 re im) := h.cell 4
  unfold agC
  go_simp

section

variable {w w' : World} {f bv be : Nat} {S : Nat → Prop} {P P' : Nat → Option Nat} {N N' : Nat → NdL} {K K' : List (ST × Option Nat)} {vs es : Int → Option Nat}


set_option maxRecDepth 100000 in
set_option maxHeartbeats 4000000 in
theorem edge_no (h : LAt w f bv be S P N K vs es) (i : Int) (hi : I64 i) (hk : es i = none) :
    Calls Try.prog 12 #[.pointer (some ⟨f, 0, none⟩), .int .i64 i] w fun e w' => e = .returned (.tuple #[Eg.zero.val, .bool false]) ∧ Below w.heap.size w w' := by
  have hb : Below w.heap.size w (w.alloc (.cells (egC Eg.zero) 33)) := (Below.refl _ _).alloc (Nat.le_refl _) _
  have HB := Lib.hid hb
  have HG : Hid (Blk (w.alloc (.cells (egC Eg.zero) 33)) w.heap.size 33 (egC Eg.zero)) := Lib.hid (Blk.new w _ _)
  have HF : Hid (Blk (w.alloc (.cells (egC Eg.zero) 33)) f 64 #[.map (some bv), .map (some be)]) := Lib.hid (h.blk.below hb h.blk.lt)
  have HM : Hid (MapG kI pQ (w.alloc (.cells (egC Eg.zero) 33)) be 4096 fun i => ptrO (es i)) := Lib.hid (h.edges.same (hb.block be h.edges.lt))
  have HV : Hid ((ptrO (es i)).getD (.pointer none) = .pointer none ∧ (ptrO (es i)).isSome = false) := Lib.hid (by rw [hk]; exact ⟨rfl, rfl⟩)
  clear h hk hb
  go_enter Try.func12, Try.ntmps12
  go_upto_region 1 with fail
  obtain ⟨w1, hw1⟩ : ∃ w1, w1 = w.alloc (.cells (egC Eg.zero) 33) := ⟨_, rfl⟩
  obtain ⟨g, hg⟩ : ∃ g, g = w.heap.size := ⟨_, rfl⟩
  have hz : w.heap.size ≤ g := by omega
  rw [← hw1] at HB HG HF HM 
  rw [← hg] at HG
  have hw2 : w1 = w.alloc (.cells #[.int .i64 0, .int .i64 0, .int .i64 0, .int .i64 0] 33) := hw1
  rw [← hw2, ← hg]
  have HZ := Lib.hid hz
  clear hw1 hw2 hg hz
  have c0 : w1.cell? ⟨f, 1, none⟩ = some (.map (some be)) := HF.out.cell 1
  have g0 : w1.cell? ⟨g, 0, none⟩ = some (.int .i64 0) := HG.out.cell 0
  have g1 : w1.cell? ⟨g, 1, none⟩ = some (.int .i64 0) := HG.out.cell 1
  have g2 : w1.cell? ⟨g, 2, none⟩ = some (.int .i64 0) := HG.out.cell 2
  have g3 : w1.cell? ⟨g, 3, none⟩ = some (.int .i64 0) := HG.out.cell 3
  have j0 := HG.out.frozen 0
  have j1 := HG.out.frozen 1
  have j2 := HG.out.frozen 2
  have j3 := HG.out.frozen 3
  go_wp2_with (at_lookup; refine wpList_lookG (X := kI) rfl _ _ _ rfl _ Try.underlying62 (zeroQ _) pQ_zero be 4096 rfl HM.out i rfl hi _ _ HV.out.1 HV.out.2 ?_)
  have hfin := (((HG.out.set_ 0 (.int .i64 0)).set_ 1 (.int .i64 0)).set_ 2 (.int .i64 0)).set_ 3 (.int .i64 0)
  rw [egC_set Eg.zero 0 0 0 0 0 rfl] at hfin
  refine ret_cell_tmp (p := 4) (u := 5) rfl rfl rfl (load_eg hfin) rfl ⟨rfl, ?_⟩
  exact (((HB.out.setCell (p := ⟨g, 0, none⟩) HZ.out _).setCell (p := ⟨g, 1, none⟩) HZ.out _).setCell (p := ⟨g, 2, none⟩) HZ.out _).setCell (p := ⟨g, 3, none⟩) HZ.out _


set_option maxRecDepth 100000 in
set_option maxHeartbeats 4000000 in
theorem edge_yes (h : LAt w f bv be S P N K vs es) (i : Int) (hi : I64 i) (k : Nat) (hk : es i = some k) :
    Calls Try.prog 12 #[.pointer (some ⟨f, 0, none⟩), .int .i64 i] w fun e w' => e = .returned (.tuple #[(N k).e.val, .bool true]) ∧ Below w.heap.size w w' := by
  have hb : Below w.heap.size w (w.alloc (.cells (egC Eg.zero) 33)) := (Below.refl _ _).alloc (Nat.le_refl _) _
  have HB := Lib.hid hb
  have HG : Hid (Blk (w.alloc (.cells (egC Eg.zero) 33)) w.heap.size 33 (egC Eg.zero)) := Lib.hid (Blk.new w _ _)
  have HF : Hid (Blk (w.alloc (.cells (egC Eg.zero) 33)) f 64 #[.map (some bv), .map (some be)]) := Lib.hid (h.blk.below hb h.blk.lt)
  have HM : Hid (MapG kI pQ (w.alloc (.cells (egC Eg.zero) 33)) be 4096 fun i => ptrO (es i)) := Lib.hid (h.edges.same (hb.block be h.edges.lt))
  have HV : Hid ((ptrO (es i)).getD (.pointer none) = .pointer (some ⟨k, 0, none⟩) ∧ (ptrO (es i)).isSome = true) := Lib.hid (by rw [hk]; exact ⟨rfl, rfl⟩)
  have HK : Hid (Blk (w.alloc (.cells (egC Eg.zero) 33)) k 71 (encL (N k))) := Lib.hid ((h.at_ k (h.eS i k hk)).below hb (h.at_ k (h.eS i k hk)).lt)
  obtain ⟨⟨q1, q2, q3, q4⟩, hq⟩ : ∃ q, q = (N k).e := ⟨_, rfl⟩
  rw [← hq]
  have HQ := Lib.hid hq
  clear hq
  clear h hk hb
  go_enter Try.func12, Try.ntmps12
  go_upto_region 1 with fail
  obtain ⟨w1, hw1⟩ : ∃ w1, w1 = w.alloc (.cells (egC Eg.zero) 33) := ⟨_, rfl⟩
  obtain ⟨g, hg⟩ : ∃ g, g = w.heap.size := ⟨_, rfl⟩
  have hz : w.heap.size ≤ g := by omega
  rw [← hw1] at HB HG HF HM HK
  rw [← hg] at HG
  have hw2 : w1 = w.alloc (.cells #[.int .i64 0, .int .i64 0, .int .i64 0, .int .i64 0] 33) := hw1
  rw [← hw2, ← hg]
  have HZ := Lib.hid hz
  clear hw1 hw2 hg hz
  have c0 : w1.cell? ⟨f, 1, none⟩ = some (.map (some be)) := HF.out.cell 1
  have g0 : w1.cell? ⟨g, 0, none⟩ = some (.int .i64 0) := HG.out.cell 0
  have g1 : w1.cell? ⟨g, 1, none⟩ = some (.int .i64 0) := HG.out.cell 1
  have g2 : w1.cell? ⟨g, 2, none⟩ = some (.int .i64 0) := HG.out.cell 2
  have g3 : w1.cell? ⟨g, 3, none⟩ = some (.int .i64 0) := HG.out.cell 3
  have j0 := HG.out.frozen 0
  have j1 := HG.out.frozen 1
  have j2 := HG.out.frozen 2
  have j3 := HG.out.frozen 3
  obtain ⟨-, -, -, -, -, ⟨k5, k6, k7, k8⟩, -, -⟩ := node_cells HK.out
  rw [← HQ.out] at k5 k6 k7 k8
  dsimp only at k5 k6 k7 k8
  go_wp2_with (at_lookup; refine wpList_lookG (X := kI) rfl _ _ _ rfl _ Try.underlying62 (zeroQ _) pQ_zero be 4096 rfl HM.out i rfl hi _ _ HV.out.1 HV.out.2 ?_)
  have hfin := (((HG.out.set_ 0 (.int .i64 q1)).set_ 1 (.int .i64 q2)).set_ 2 (.int .i64 q3)).set_ 3 (.int .i64 (q4 : Int))
  rw [egC_set Eg.zero q1 q2 q3 (q4 : Int) q4 rfl] at hfin
  refine ret_cell_tmp (p := 4) (u := 5) rfl rfl rfl (load_eg hfin) rfl ⟨rfl, ?_⟩
  exact (((HB.out.setCell (p := ⟨g, 0, none⟩) HZ.out _).setCell (p := ⟨g, 1, none⟩) HZ.out _).setCell (p := ⟨g, 2, none⟩) HZ.out _).setCell (p := ⟨g, 3, none⟩) HZ.out _


theorem ToD.wrap {w0 w1 : World} {n z : Nat} {B A : ST} {P1 : Nat → Option Nat} (D : ToD S P w0 N K n z w1 B P1 N' K' A) (ha : NAt w' S N') (hm : Mod S w w') : ToD S P w N K n z w' B P1 N' K' A := ⟨ha, hm, D.fs, D.same, D.turn, D.line, D.apart, D.reach, D.root⟩

theorem mod5 {w : World} {g : Nat} {a0 a1 a2 a3 a4 : Value} : Mod (fun k => k = g) w (((((w.setCell ⟨g, 0, none⟩ a0).setCell ⟨g, 1, none⟩ a1).setCell ⟨g, 2, none⟩ a2).setCell ⟨g, 3, none⟩ a3).setCell ⟨g, 4, none⟩ a4) := mod_set (mod_set (mod_set (mod_set (mod_set (Mod.refl _ _) _) _) _) _) _


set_option maxRecDepth 100000 in
set_option maxHeartbeats 4000000 in
theorem along_no (h : LAt w f bv be S P N K vs es) (u v : Int) (hu : I64 u) (hv : I64 v) (hn : vs u = none ∨ vs v = none) :
    Calls Try.prog 16 #[.pointer (some ⟨f, 0, none⟩), .int .i64 u, .int .i64 v] w fun e w' => e = .returned (.tuple #[.agg (agC Eg.zero 0 0), .int .i64 51]) ∧ Below w.heap.size w w' := by
  have hb : Below w.heap.size w (w.alloc (.cells (agC Eg.zero 0 0) 48)) := (Below.refl _ _).alloc (Nat.le_refl _) _
  have HB := Lib.hid hb
  have HG : Hid (Blk (w.alloc (.cells (agC Eg.zero 0 0) 48)) w.heap.size 48 (agC Eg.zero 0 0)) := Lib.hid (Blk.new w _ _)
  have HLW := Lib.hid (h.below hb)
  have HSZ : Hid (∀ s, S s → s < w.heap.size) := Lib.hid (fun s hs => (h.at_ s hs).lt)
  clear h hb
  go_enter Try.func16, Try.ntmps16
  go_upto_region 1 with fail
  obtain ⟨w1, hw1⟩ : ∃ w1, w1 = w.alloc (.cells (agC Eg.zero 0 0) 48) := ⟨_, rfl⟩
  obtain ⟨g, hg⟩ : ∃ g, g = w.heap.size := ⟨_, rfl⟩
  have hz : w.heap.size ≤ g := by omega
  rw [← hw1] at HB HG HLW
  rw [← hg] at HG
  have hw2 : w1 = w.alloc (.cells #[.int .i64 0, .int .i64 0, .int .i64 0, .int .i64 0, .complex .f64 0 0] 48) := hw1
  rw [← hw2, ← hg]
  have HZ := Lib.hid hz
  have HGS : Hid (¬ S g) := Lib.hid (fun hs => by have := HSZ.out g hs; omega)
  clear hw1 hw2 hg hz
  have HJ := Lib.hid (joined_no HLW.out u v hu hv hn)
  clear hn
  have g0 : w1.cell? ⟨g, 0, none⟩ = some (.int .i64 0) := HG.out.cell 0
  have g1 : w1.cell? ⟨g, 1, none⟩ = some (.int .i64 0) := HG.out.cell 1
  have g2 : w1.cell? ⟨g, 2, none⟩ = some (.int .i64 0) := HG.out.cell 2
  have g3 : w1.cell? ⟨g, 3, none⟩ = some (.int .i64 0) := HG.out.cell 3
  have g4 : w1.cell? ⟨g, 4, none⟩ = some (.complex .f64 0 0) := HG.out.cell 4
  have j0 := HG.out.frozen 0
  have j1 := HG.out.frozen 1
  have j2 := HG.out.frozen 2
  have j3 := HG.out.frozen 3
  have j4 := HG.out.frozen 4
  go_wp2_with fail
  refine HJ.out.mono ?_
  rintro e w2 ⟨rfl, hw⟩
  subst w2
  go_wp2_with fail
  have hfin := (((((HG.out.set_ 0 (.int .i64 0)).set_ 1 (.int .i64 0)).set_ 2 (.int .i64 0)).set_ 3 (.int .i64 0)).set_ 4 (.complex .f64 0 0))
  rw [agC_set Eg.zero 0 0 0 0 0 0 0 0 0 rfl] at hfin
  refine ret_cell_tmp (p := 6) (u := 7) rfl rfl rfl (load_ag hfin) rfl ⟨rfl, ?_⟩
  exact HB.out.trans (Mod.below mod5 (by exact HB.out.size) fun k hk => hk ▸ HZ.out)


set_option maxRecDepth 100000 in
set_option maxHeartbeats 4000000 in
theorem along_yes (h : LAt w f bv be S P N K vs es) (u v : Int) (hu : I64 u) (hv : I64 v) (a b : Nat) (h1 : vs u = some a) (h2 : vs v = some b) :
    Calls Try.prog 16 #[.pointer (some ⟨f, 0, none⟩), .int .i64 u, .int .i64 v] w fun e w' => ∃ B P1 N' K' A, ToD S P w N K a b w' B P1 N' K' A ∧
      ((¬ Anc P1 a b ∧ e = .returned (.tuple #[.agg (agC Eg.zero 0 0), .int .i64 61])) ∨ (Anc P1 a b ∧ e = .returned (.tuple #[.agg (agC (N' b).m (fl (N' b).s) (fl (N' b).k)), .int .i64 0]))) := by
  have HVB : Hid (S b) := Lib.hid (h.vS v b h2)
  have hb : Below w.heap.size w (w.alloc (.cells (agC Eg.zero 0 0) 48)) := (Below.refl _ _).alloc (Nat.le_refl _) _
  have HB := Lib.hid hb
  have HG : Hid (Blk (w.alloc (.cells (agC Eg.zero 0 0) 48)) w.heap.size 48 (agC Eg.zero 0 0)) := Lib.hid (Blk.new w _ _)
  have HLW := Lib.hid (h.below hb)
  have HSZ : Hid (∀ s, S s → s < w.heap.size) := Lib.hid (fun s hs => (h.at_ s hs).lt)
  clear h hb
  go_enter Try.func16, Try.ntmps16
  go_upto_region 1 with fail
  obtain ⟨w1, hw1⟩ : ∃ w1, w1 = w.alloc (.cells (agC Eg.zero 0 0) 48) := ⟨_, rfl⟩
  obtain ⟨g, hg⟩ : ∃ g, g = w.heap.size := ⟨_, rfl⟩
  have hz : w.heap.size ≤ g := by omega
  rw [← hw1] at HB HG HLW
  rw [← hg] at HG
  have hw2 : w1 = w.alloc (.cells #[.int .i64 0, .int .i64 0, .int .i64 0, .int .i64 0, .complex .f64 0 0] 48) := hw1
  rw [← hw2, ← hg]
  have HZ := Lib.hid hz
  have HGS : Hid (¬ S g) := Lib.hid (fun hs => by have := HSZ.out g hs; omega)
  clear hw1 hw2 hg hz
  have HJ := Lib.hid (joined_yes HLW.out u v hu hv a b h1 h2)
  have HW : Hid ((ptrO (vs v)).getD (.pointer none) = .pointer (some ⟨b, 0, none⟩)) := Lib.hid (by rw [h2]; rfl)
  clear h1 h2
  go_wp2_with fail
  refine HJ.out.mono ?_
  rintro e w2 ⟨r, rfl, B, P1, N', K', A, hr, D⟩
  have HD := Lib.hid D
  have HR := Lib.hid hr
  have HM1 : Hid (MapG kI pQ w2 bv 4096 fun v => ptrO (vs v)) := Lib.hid (HLW.out.verts.mod D.mod HLW.out.bvS)
  have c0 : w2.cell? ⟨f, 0, none⟩ = some (.map (some bv)) := (HLW.out.blk.mod D.mod HLW.out.fS).cell 0
  have HG2 : Hid (Blk w2 g 48 (agC Eg.zero 0 0)) := Lib.hid (HG.out.mod D.mod HGS.out)
  have HMD : Hid (∀ w3, Mod (fun k => k = g) w2 w3 → ToD S P w N K a b w3 B P1 N' K' A) := Lib.hid (fun w3 h3 => D.wrap (D.at_.mod h3 (fun s hs e => HGS.out (e ▸ hs))) (by
    have m1 : Mod S w w2 := (Mod.of_below HB.out S).trans' D.mod
    exact m1.trans h3 fun k hk e => absurd hk (by have := HZ.out; omega)))
  have HBK : Hid (Blk w2 b 71 (encL (N' b))) := Lib.hid (D.at_ b HVB.out)
  clear D hr
  have g0 : w2.cell? ⟨g, 0, none⟩ = some (.int .i64 0) := HG2.out.cell 0
  have g1 : w2.cell? ⟨g, 1, none⟩ = some (.int .i64 0) := HG2.out.cell 1
  have g2 : w2.cell? ⟨g, 2, none⟩ = some (.int .i64 0) := HG2.out.cell 2
  have g3 : w2.cell? ⟨g, 3, none⟩ = some (.int .i64 0) := HG2.out.cell 3
  have g4 : w2.cell? ⟨g, 4, none⟩ = some (.complex .f64 0 0) := HG2.out.cell 4
  have j0 := HG2.out.frozen 0
  have j1 := HG2.out.frozen 1
  have j2 := HG2.out.frozen 2
  have j3 := HG2.out.frozen 3
  have j4 := HG2.out.frozen 4
  cases r with
  | false =>
    go_wp2_with fail
    have hfin := (((((HG2.out.set_ 0 (.int .i64 0)).set_ 1 (.int .i64 0)).set_ 2 (.int .i64 0)).set_ 3 (.int .i64 0)).set_ 4 (.complex .f64 0 0))
    rw [agC_set Eg.zero 0 0 0 0 0 0 0 0 0 rfl] at hfin
    refine ret_cell_tmp (p := 6) (u := 7) rfl rfl rfl (load_ag hfin) rfl ?_
    exact ⟨B, P1, N', K', A, HMD.out _ mod5, .inl ⟨(fun ha => by have := HR.out.2 ha; cases this), rfl⟩⟩
  | true =>
    obtain ⟨-, -, -, -, -, -, ⟨k5, k6, k7, k8⟩, k9⟩ := node_cells HBK.out
    obtain ⟨⟨q1, q2, q3, q4⟩, hq⟩ : ∃ q, q = (N' b).m := ⟨_, rfl⟩
    obtain ⟨qs, hqs⟩ : ∃ q, q = fl (N' b).s := ⟨_, rfl⟩
    obtain ⟨qk, hqk⟩ : ∃ q, q = fl (N' b).k := ⟨_, rfl⟩
    rw [← hq] at k5 k6 k7 k8
    rw [← hqs, ← hqk] at k9
    dsimp only at k5 k6 k7 k8
    have HQ := Lib.hid (And.intro hq (And.intro hqs hqk))
    clear hq hqs hqk
    go_upto_region 7 with (at_lookup; refine wpList_lookG1 (X := kI) rfl _ _ _ rfl _ Try.underlying62 (zeroQ _) pQ_zero bv 4096 rfl HM1.out v rfl hv _ HW.out ?_)
    go_region
    go_wp2_with fail
    have hfin := (((((HG2.out.set_ 0 (.int .i64 q1)).set_ 1 (.int .i64 q2)).set_ 2 (.int .i64 q3)).set_ 3 (.int .i64 (q4 : Int))).set_ 4 (.complex .f64 qs qk)).drew
    rw [agC_set Eg.zero 0 0 qs qk q1 q2 q3 (q4 : Int) q4 rfl] at hfin
    refine ret_cell_tmp (p := 6) (u := 7) rfl rfl rfl (load_ag hfin) rfl ?_
    exact ⟨B, P1, N', K', A, HMD.out _ mod5.drew, .inr ⟨HR.out.1 trivial, by rw [← HQ.out.1, ← HQ.out.2.1, ← HQ.out.2.2]; rfl⟩⟩


end

end Go.Proofs.Ytlhkajlkapoabaa
