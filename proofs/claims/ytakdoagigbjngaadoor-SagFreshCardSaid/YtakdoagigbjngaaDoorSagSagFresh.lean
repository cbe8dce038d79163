/- Without fresh volts, or fresh amps, or with volts that are too few, nothing is said. Conditions: none. -/
import Derived.Test.YtakdoagigbjngaaDoorSagF
namespace Go.Proofs.YtakdoagigbjngaaDoor
open Go.RowKit
set_option linter.unusedVariables false
set_option maxRecDepth 20000 in
set_option maxHeartbeats 4000000 in
theorem walkSagFresh (a0 : Int) (a1 : Int) (a2 : Bool) (a3 : Bool) (w : World) (w0 : (Lit.int .i64 a0).wf = true) (w1 : (Lit.int .i64 a1).wf = true) :
    Calls Tryd.prog 6 #[.int .i64 a0, .int .i64 a1, .bool a2, .bool a3] w fun e w' => e = .returned (.bool true) ∧ Below w.heap.size w w' := by
  obtain ⟨b0, b0'⟩ := bounds_i64 w0
  obtain ⟨b1, b1'⟩ := bounds_i64 w1
  clear w0 w1
  go_enter Tryd.func6, Tryd.ntmps6
  go_wp2_with fail
  refine (sagFirst _).mono ?_
  rintro e w1 ⟨rfl, hb1⟩
  go_wp2_with fail
  refine (configL 0 0 0 _).mono ?_
  rintro e w2 ⟨A, O, rfl, ca, hp1, hb2⟩
  have CC := Lib.hid ca
  have PP := Lib.hid hp1
  have HB := Lib.hid (hb1.trans (hb2.mono hb1.size))
  have hs := ca.hs
  have hi := ca.hi
  clear ca hp1 hb1 hb2
  go_wp2_with fail
  refine upon_fresh (cells := A) rfl (by rw [hs]; rfl) CC.out.one ?_
  intro W bW sW hW
  have L0 := Lib.hid (show LC w W w2.heap.size A O from ⟨hW, PP.out.below bW, HB.out.trans (bW.mono HB.out.size)⟩)
  clear bW hW PP HB
  dsimp only [Act.put]
  have t1 := tmod_b a0 60001 (by omega)
  have t2 := tmod_b a1 501 (by omega)
  go_wp2_with (refine wpList_load_row_g (by kernel_rfl) 28 _ rfl w2.heap.size rfl 28 _ (0, 0) _ L0.out.row Tryd.underlying28 rfl hi ?_)
  have v1 : 0 ≤ a0.tmod 60001 % 60001 ∧ a0.tmod 60001 % 60001 < 60001 := ⟨Int.emod_nonneg _ (by omega), Int.emod_lt_of_pos _ (by omega)⟩
  generalize a0.tmod 60001 % 60001 = V at *
  generalize a1.tmod 501 = M at *
  clear t1 b0 b0' b1 b1'
  by_cases hy : a2 = true ∧ a3 = true ∧ 10000 ≤ V
  · obtain ⟨rfl, rfl, h1⟩ := hy
    refine (sagChargeYes A V M 100 ⟨O, 0, none⟩ 4 4 ocvX ocvY ocv_ok CC.out.hs CC.out.g9 CC.out.g16 CC.out.g17 CC.out.g20 (by omega) (by omega) (by omega) _ L0.out.pts).mono ?_
    rintro e w3 ⟨rfl, hb⟩
    have L1 := Lib.hid (L0.out.below hb)
    have k1 := back_in (m := 3) ocv_ok (restL V M 100)
    have k2 := back_in (m := 3) ocv_ok (restH V M 100)
    simp only [show ocvX 0 = 0 from rfl, show ocvX 3 = 100000 from rfl, Nat.reduceAdd] at k1 k2
    generalize backLo 4 ocvX ocvY (restL V M 100) = lo at *
    generalize backHi 4 ocvX ocvY (restH V M 100) = hi' at *
    clear hb L0
    have x5 := fun (o : Obj) => (L1.out.alloc o).cell 5 CC.out.g5
    have x9 := fun (o : Obj) => (L1.out.alloc o).cell 9 CC.out.g9
    have g1 : decide (10000 ≤ V) = true := decide_eq_true h1
    have g2 : decide (0 ≤ lo) = true := decide_eq_true (by omega)
    have g3 : decide (hi' ≤ 100000) = true := decide_eq_true (by omega)
    go_wp2_with fail
    go_returns
    exact ⟨rfl, (L1.out.alloc _).lo⟩
  · have hno : (a2 && a3 && decide (10000 ≤ V)) = false := by
      cases a2 <;> cases a3 <;> simp_all
    refine (sagChargeNo A V M a2 a3 CC.out.g9 hno _).mono ?_
    rintro e w3 ⟨rfl, hb⟩
    have L1 := Lib.hid (L0.out.below hb)
    clear hb L0
    have x5 := fun (o : Obj) => (L1.out.alloc o).cell 5 CC.out.g5
    have x9 := fun (o : Obj) => (L1.out.alloc o).cell 9 CC.out.g9
    have KS := Lib.hid fun (w : World) => sameSpan 0 0 0 0 w
    rw [sameB_self] at KS
    clear hy
    cases a2
    · clear hno
      go_wp2_with fail
      refine (KS.out _).mono ?_
      rintro e w4 ⟨rfl, hb⟩
      have L2 := Lib.hid ((L1.out.alloc _).below hb)
      have R2 := Lib.hid ((Bx.new w3 #[.int .i64 0, .int .i64 0] 31).below hb)
      clear hb x5 x9
      have y0 := R2.out.cell 0 rfl
      have y1 := R2.out.cell 1 rfl
      have x5 := L2.out.cell 5 CC.out.g5
      go_wp2_with fail
      go_returns
      exact ⟨rfl, L2.out.lo⟩
    · cases a3
      · clear hno
        go_wp2_with fail
        refine (KS.out _).mono ?_
        rintro e w4 ⟨rfl, hb⟩
        have L2 := Lib.hid ((L1.out.alloc _).below hb)
        have R2 := Lib.hid ((Bx.new w3 #[.int .i64 0, .int .i64 0] 31).below hb)
        clear hb x5 x9
        have y0 := R2.out.cell 0 rfl
        have y1 := R2.out.cell 1 rfl
        have x5 := L2.out.cell 5 CC.out.g5
        go_wp2_with fail
        go_returns
        exact ⟨rfl, L2.out.lo⟩
      · have g1 : decide (10000 ≤ V) = false := by simpa using hno
        clear hno
        go_wp2_with fail
        refine (KS.out _).mono ?_
        rintro e w4 ⟨rfl, hb⟩
        have L2 := Lib.hid ((L1.out.alloc _).below hb)
        have R2 := Lib.hid ((Bx.new w3 #[.int .i64 0, .int .i64 0] 31).below hb)
        clear hb x5 x9
        have y0 := R2.out.cell 0 rfl
        have y1 := R2.out.cell 1 rfl
        have x5 := L2.out.cell 5 CC.out.g5
        go_wp2_with fail
        go_returns
        exact ⟨rfl, L2.out.lo⟩
end Go.Proofs.YtakdoagigbjngaaDoor
