/-
  The document's Bad and Make at a rope that has nothing.
-/
import Derived.Test.YtbbfnbnjaiimgaaRP27
namespace Go.Proofs.Ytbbfnbnjaiimgaa
open Go.RowKit
set_option linter.unusedVariables false

def emptyRf : Value := .agg #[.slice none 0 0, .slice none 0 0, .slice none 0 0]

set_option maxRecDepth 100000 in
set_option maxHeartbeats 2000000 in
theorem refBad_empty (w : World) (a : Int) : Calls Try.prog 60 #[emptyRf, .int .i64 a] w fun e w' => e = .returned (.bool true) ∧ Below w.heap.size w w' := by
  have HB := Lib.hid ((Below.refl w.heap.size w).alloc (Nat.le_refl _) (Obj.cells #[.slice none 0 0, .slice none 0 0, .slice none 0 0] 32))
  change Calls Try.prog 60 #[.agg #[.slice none 0 0, .slice none 0 0, .slice none 0 0], .int .i64 a] w _
  go_enter Try.func60, Try.ntmps60
  by_cases h : a < 1
  · have e1 : decide (a < 1) = true := by simpa using h
    go_wp2_with fail
    go_ret
    exact ⟨rfl, HB.out⟩
  · have e1 : decide (a < 1) = false := by simpa using h
    have e2 : decide (0 < a) = true := by simp; omega
    go_wp2_with fail
    go_ret
    exact ⟨rfl, HB.out⟩

theorem etI64s : ElemT 30 2 1 8 := elemT_of (z := .int .i64 0) Try.underlying30 (by kernel_rfl) (by kernel_rfl) (by decide) (by decide) (by decide)

def encR3 (x : Option Addr × Nat × Nat) : List Value := [.slice x.1 x.2.1 x.2.2]

theorem encR3_len (x : Option Addr × Nat × Nat) : (encR3 x).length = 1 := rfl

theorem encR3_one (x : Option Addr × Nat × Nat) : ∀ u ∈ encR3 x, u.oneCell' = true := by intro u hu; simp [encR3] at hu; subst hu; rfl

theorem etRows : ElemT 29 22 1 24 := elemT_of (z := .slice none 0 0) Try.underlying29 (by kernel_rfl) (by kernel_rfl) (by decide) (by decide) (by decide)

theorem ret_cell1 {fn : Func} {p : Tmp} {ty : TypeId} {a : Act} {w : World} {post : Ending → World → Prop} {A : Addr} {v : Value} (hr : fn.results = #[.cell p ty]) (hp : a.tmps.getD p undef = .pointer (some A))
    (hl : (loadVar ty A).run Try.prog w = .ok v w) (hd : a.defers = []) (h : post (.returned v) w) : bodyPost Try.prog fn post .ret a w := by
  refine bodyPost_ret (v := v) ?_ hd h
  have hp' : a.tmps[p]?.getD undef = .pointer (some A) := by simpa using hp
  simp only [results, hr]
  simp [hp', asAddr, hl]
/-- .. behind a store of what the cell holds. -/
theorem setRow_same {w : World} {g : Nat} {t : TypeId} {cs : Array Value} (h : Blk w g t cs) : w.setRow g cs = w := setRow_self w g cs t (0, 0) h
theorem run_storeCx (P : Program) (w : World) (a : Addr) (m : Mode) (k : FloatKind) (x y : Nat) : (store a (.complex k x y) m).run P w = stored P w a (.complex k x y) m := run_store P w a _ m rfl
attribute [local go_sem] run_storeCx

def z3 : Obj := Obj.cells #[.slice none 0 0, .slice none 0 0, .slice none 0 0] 32

set_option maxRecDepth 100000 in
set_option maxHeartbeats 2000000 in
theorem refMake_empty (w : World) (n k : Int) : Calls Try.prog 61 #[emptyRf, .int .i64 n, .int .i64 k] w fun e w' => (∃ A a a' C c c' D d d', e = .returned (.agg #[.slice A a a', .slice C c c', .slice D d d'])) ∧ Below w.heap.size w w' := by
  change Calls Try.prog 61 #[.agg #[.slice none 0 0, .slice none 0 0, .slice none 0 0], .int .i64 n, .int .i64 k] w _
  go_enter Try.func61, Try.ntmps61
  go_wp2_with fail
  go_loopw [8] (fun i wr => i = .int .i64 0 ∧ wr = ((w.alloc z3).alloc z3).alloc z3) (fun i wr => 0)
  case atStart => exact ⟨rfl, rfl⟩
  case round =>
    obtain ⟨rfl, rfl⟩ := hrel
    obtain ⟨W, hW⟩ : ∃ W, W = ((w.alloc z3).alloc z3).alloc z3 := ⟨_, rfl⟩
    obtain ⟨p0, hp0⟩ : ∃ p, p = w.heap.size := ⟨_, rfl⟩
    obtain ⟨p1, hp1⟩ : ∃ p, p = w.heap.size + 1 := ⟨_, rfl⟩
    obtain ⟨p2, hp2⟩ : ∃ p, p = w.heap.size + 1 + 1 := ⟨_, rfl⟩
    have hB1 : Blk W p1 32 #[.slice none 0 0, .slice none 0 0, .slice none 0 0] := by
      rw [hW, hp1]; have := (Blk.new (w.alloc z3) 32 #[.slice none 0 0, .slice none 0 0, .slice none 0 0]).alloc z3; simpa [z3] using this
    have hB0 : Blk W p0 32 #[.slice none 0 0, .slice none 0 0, .slice none 0 0] := by
      rw [hW, hp0]; exact ((Blk.new w _ _).alloc _).alloc _
    have hB2 : Blk W p2 32 #[.slice none 0 0, .slice none 0 0, .slice none 0 0] := by
      rw [hW, hp2]; have := Blk.new ((w.alloc z3).alloc z3) 32 #[.slice none 0 0, .slice none 0 0, .slice none 0 0]; simpa [z3] using this
    have hbel : Below w.heap.size w W := by
      rw [hW]; exact (((Below.refl _ w).alloc (Nat.le_refl _) _).alloc (by simp) _).alloc (by simp; omega) _
    rw [← hW]
    rw [← hp0] at hp1 hp2
    rw [← hp1] at hp2
    simp only [← hp0, ← hp1, ← hp2]
    have HB1 := Lib.hid hB1
    have HP1 := Lib.hid hp1
    have HBEL := Lib.hid hbel
    have HB2 := Lib.hid hB2
    have c01 : W.cell? ⟨p0, 1, none⟩ = some (.slice none 0 0) := hB0.cell 1
    have c00 : W.cell? ⟨p0, 0, none⟩ = some (.slice none 0 0) := hB0.cell 0
    have c21 : W.cell? ⟨p2, 1, none⟩ = some (.slice none 0 0) := hB2.cell 1
    have HB0 := Lib.hid hB0
    have HP := Lib.hid hp0
    have HP2 := Lib.hid hp2
    clear hbel hB2 hB1 hB0 hW hp0 hp1 hp2
    go_upto_region 8 with ((at_builtin; go_loud (refine wpList_appE (v := .slice none 0 0) etI64s encI_len encI_one (y := n) rfl (.tmp 39) (.tmp 41) rfl rfl (OK.nil _ w.heap.size) W.heap.size rfl (oneI W n _) (by simp) (base1 HBEL.out.size _) ?_; intro v4 w4 k1 k2 k3; have hb2 := Lib.hid ((HB2.out.alloc (Obj.cells #[Value.int IntKind.i64 n] 2)).grown k2 (by simp [Value.ownBlock])); have hb0 := Lib.hid ((HB0.out.alloc (Obj.cells #[Value.int IntKind.i64 n] 2)).grown k2 (by simp [Value.ownBlock])); have hb1 := Lib.hid ((HB1.out.alloc (Obj.cells #[Value.int IntKind.i64 n] 2)).grown k2 (by simp [Value.ownBlock])); have hbl := Lib.hid ((HBEL.out.alloc HBEL.out.size (Obj.cells #[Value.int IntKind.i64 n] 2)).grown k2 (base1 HBEL.out.size _) (by simp [Value.ownBlock])); have f21 := hb2.out.frozen 1; have c21' := hb2.out.cell 1; obtain ⟨A4, cc4, hv4, -, -, -, -⟩ := (k1.rk encI_len (Nat.le_refl _)).open_; subst hv4; clear k1 k2 k3)))
    have hne : p0 ≠ p2 := by have := HP2.out; have := HP1.out; omega
    have hne1 : p1 ≠ p2 := by have := HP2.out; omega
    have hge : w.heap.size ≤ p2 := by have := HP2.out; have := HP1.out; have := HP.out; omega
    obtain ⟨w5, h5⟩ : ∃ x, x = w4.setCell ⟨p2, 1, none⟩ (.slice A4 1 cc4) := ⟨_, rfl⟩
    have hb25 : Blk w5 p2 32 #[.slice none 0 0, .slice A4 1 cc4, .slice none 0 0] := by rw [h5]; exact hb2.out.set_ 1 _
    have hb05 : Blk w5 p0 32 #[.slice none 0 0, .slice none 0 0, .slice none 0 0] := by rw [h5]; exact hb0.out.far hne _
    have hb15 : Blk w5 p1 32 #[.slice none 0 0, .slice none 0 0, .slice none 0 0] := by rw [h5]; exact hb1.out.far hne1 _
    have hbl5 : Below w.heap.size w w5 := by rw [h5]; exact hbl.out.setCell (p := ⟨p2, 1, none⟩) hge _
    rw [← h5]
    clear h5 f21 c21' c21
    have HB25 := Lib.hid hb25
    have HB05 := Lib.hid hb05
    have HB15 := Lib.hid hb15
    have HBL5 := Lib.hid hbl5
    have d0 := hb05.cell 0
    have d2 := hb25.cell 2
    clear hb25 hb05 hb15 hbl5
    go_upto_region 9 with ((at_builtin; go_loud (refine wpList_appE (v := .slice none 0 0) etInts encI_len encI_one (y := k) rfl (.tmp 45) (.tmp 47) rfl rfl (OK.nil _ w.heap.size) w5.heap.size rfl (oneI w5 k _) (by simp) (base1 HBL5.out.size _) ?_; intro v6 w6 k1 k2 k3; have hb26 := Lib.hid ((HB25.out.alloc (Obj.cells #[Value.int IntKind.i64 k] 3)).grown k2 (by simp [Value.ownBlock])); have hb06 := Lib.hid ((HB05.out.alloc (Obj.cells #[Value.int IntKind.i64 k] 3)).grown k2 (by simp [Value.ownBlock])); have hb16 := Lib.hid ((HB15.out.alloc (Obj.cells #[Value.int IntKind.i64 k] 3)).grown k2 (by simp [Value.ownBlock])); have hbl6 := Lib.hid ((HBL5.out.alloc HBL5.out.size (Obj.cells #[Value.int IntKind.i64 k] 3)).grown k2 (base1 HBL5.out.size _) (by simp [Value.ownBlock])); have f26 := hb26.out.frozen 2; have c26 := hb26.out.cell 2; obtain ⟨A6, cc6, hv6, -, -, -, -⟩ := (k1.rk encI_len (Nat.le_refl _)).open_; subst hv6; clear k1 k2 k3)))
    obtain ⟨w7, h7⟩ : ∃ x, x = w6.setCell ⟨p2, 2, none⟩ (.slice A6 1 cc6) := ⟨_, rfl⟩
    have hb27 : Blk w7 p2 32 #[.slice none 0 0, .slice A4 1 cc4, .slice A6 1 cc6] := by rw [h7]; exact hb26.out.set_ 2 _
    have hb07 : Blk w7 p0 32 #[.slice none 0 0, .slice none 0 0, .slice none 0 0] := by rw [h7]; exact hb06.out.far hne _
    have hb17 : Blk w7 p1 32 #[.slice none 0 0, .slice none 0 0, .slice none 0 0] := by rw [h7]; exact hb16.out.far hne1 _
    have hbl7 : Below w.heap.size w w7 := by rw [h7]; exact hbl6.out.setCell (p := ⟨p2, 2, none⟩) hge _
    rw [← h7]
    clear h7 f26 c26 d0 d2 c00 c01
    have HB27 := Lib.hid hb27
    have HB07 := Lib.hid hb07
    have HB17 := Lib.hid hb17
    have HBL7 := Lib.hid hbl7
    have g0 := hb07.cell 0
    have g20 := hb27.cell 0
    have g21 := hb27.cell 1
    clear hb27 hb07 hb17 hbl7
    go_wp2_with fail
    go_loopw [9] (fun i wr => i = .int .i64 0 ∧ wr = w7) (fun i wr => 0)
    case atStart => exact ⟨rfl, rfl⟩
    case round =>
      obtain ⟨rfl, hwr⟩ := hrel
      rw [hwr]
      clear hwr
      have hc : ∀ (j : Nat) u, (encR3 (some ⟨w7.heap.size, 0, none⟩, 1, 1))[j]? = some u → ((w7.alloc (Obj.cells #[Value.int IntKind.i64 1] 3)).alloc (Obj.cells #[Value.slice (some ⟨w7.heap.size, 0, none⟩) 1 1] 22)).cell? ⟨w7.heap.size + 1, j, none⟩ = some u := by
        intro j u hu
        rw [show w7.heap.size + 1 = (w7.alloc (Obj.cells #[Value.int IntKind.i64 1] 3)).heap.size by simp, (Blk.new _ _ _).cell j]
        simpa [encR3] using hu
      have HC := Lib.hid hc
      clear hc
      go_upto_region 14 with ((at_builtin; go_loud (refine wpList_appE (v := .slice none 0 0) etRows encR3_len encR3_one (y := (some ⟨w7.heap.size, 0, none⟩, 1, 1)) rfl (.tmp 68) (.tmp 73) rfl rfl (OK.nil _ w.heap.size) (w7.heap.size + 1) rfl HC.out (by simp) (base1 (base1 HBL7.out.size _) _) ?_; intro v8 w8 k1 k2 k3; have hb28 := Lib.hid (((HB27.out.alloc _).alloc _).grown k2 (by simp [Value.ownBlock])); have hb18 := Lib.hid (((HB17.out.alloc _).alloc _).grown k2 (by simp [Value.ownBlock])); have hbl8 := Lib.hid (((HBL7.out.alloc HBL7.out.size _).alloc (base1 HBL7.out.size _) _).grown k2 (base1 (base1 HBL7.out.size _) _) (by simp [Value.ownBlock])); have f28 := hb28.out.frozen 0; have c28 := hb28.out.cell 0; obtain ⟨A8, cc8, hv8, -, -, -, -⟩ := (k1.rk encR3_len (Nat.le_refl _)).open_; subst hv8; clear k1 k2 k3)))
      have hge1 : w.heap.size ≤ p1 := by have := HP1.out; have := HP.out; omega
      obtain ⟨w9, h9⟩ : ∃ x, x = w8.setCell ⟨p2, 0, none⟩ (.slice A8 1 cc8) := ⟨_, rfl⟩
      have hb29 : Blk w9 p2 32 #[.slice A8 1 cc8, .slice A4 1 cc4, .slice A6 1 cc6] := by rw [h9]; exact hb28.out.set_ 0 _
      have hb19 : Blk w9 p1 32 #[.slice none 0 0, .slice none 0 0, .slice none 0 0] := by rw [h9]; exact hb18.out.far hne1 _
      have hbl9 : Below w.heap.size w w9 := by rw [h9]; exact hbl8.out.setCell (p := ⟨p2, 0, none⟩) hge _
      rw [← h9]
      clear h9 f28 c28 g0 g20 g21
      have q0 := hb29.cell 0
      have q1 := hb29.cell 1
      have q2 := hb29.cell 2
      have s0 := hb19.cell 0
      have s1 := hb19.cell 1
      have s2 := hb19.cell 2
      have e0 := hb19.frozen 0
      have e1 := hb19.frozen 1
      have e2 := hb19.frozen 2
      have HBL9 := Lib.hid (((hbl9.setCell (p := ⟨p1, 0, none⟩) hge1 (.slice A8 1 cc8)).setCell (p := ⟨p1, 1, none⟩) hge1 (.slice A4 1 cc4)).setCell (p := ⟨p1, 2, none⟩) hge1 (.slice A6 1 cc6))
      clear hb29 hb19 hbl9
      go_wp2_with fail
      refine ret_cell1 (p := 6) (v := .agg #[.slice A8 1 cc8, .slice A4 1 cc4, .slice A6 1 cc6]) rfl rfl (by go_simp) rfl ⟨⟨_, _, _, _, _, _, _, _, _, rfl⟩, HBL9.out⟩

end Go.Proofs.Ytbbfnbnjaiimgaa
