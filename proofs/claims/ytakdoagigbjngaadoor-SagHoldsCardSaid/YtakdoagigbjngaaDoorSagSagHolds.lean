/- Volts under a load, wrong by no more than may be, say a span that the charge stands in. Conditions: none. -/
import Derived.Test.YtakdoagigbjngaaDoorSagF
namespace Go.Proofs.YtakdoagigbjngaaDoor
open Go.RowKit
set_option linter.unusedVariables false
set_option maxRecDepth 20000 in
set_option maxHeartbeats 4000000 in
theorem walkSagHolds (a0 : Int) (a1 : Int) (a2 : Int) (a3 : Int) (a4 : Int) (a5 : Int) (w : World) (w0 : (Lit.int .i64 a0).wf = true) (w1 : (Lit.int .i64 a1).wf = true) (w2 : (Lit.int .i64 a2).wf = true) (w3 : (Lit.int .i64 a3).wf = true) (w4 : (Lit.int .i64 a4).wf = true) (w5 : (Lit.int .i64 a5).wf = true) :
    Calls Tryd.prog 4 #[.int .i64 a0, .int .i64 a1, .int .i64 a2, .int .i64 a3, .int .i64 a4, .int .i64 a5] w fun e w' => e = .returned (.bool true) ∧ Below w.heap.size w w' := by
  obtain ⟨b3, b3'⟩ := bounds_i64 w3
  obtain ⟨b4, b4'⟩ := bounds_i64 w4
  obtain ⟨b5, b5'⟩ := bounds_i64 w5
  clear w0 w1 w2 w3 w4 w5
  go_enter Tryd.func4, Tryd.ntmps4
  go_wp2_with fail
  refine (sagFirst _).mono ?_
  rintro e w1 ⟨rfl, hb1⟩
  go_wp2_with fail
  refine (configL a0 a1 a2 _).mono ?_
  rintro e w2 ⟨A, O, rfl, ca, hp1, hb2⟩
  have CC := Lib.hid ca
  have PP := Lib.hid hp1
  have HB := Lib.hid (hb1.trans (hb2.mono hb1.size))
  have hs := ca.hs
  have hi := ca.hi
  clear ca hp1 hb1 hb2
  go_wp2_with fail
  refine upon_fresh (cells := A) rfl (by rw [hs]; rfl) CC.out.one ?_
  intro W bW sW hW
  have L0 := Lib.hid (show LC w W w2.heap.size A O from ⟨hW, PP.out.below bW, HB.out.trans (bW.mono HB.out.size)⟩)
  clear bW hW PP HB sW
  dsimp only [Act.put]
  have t3 := tmod_b a3 100001 (by omega)
  have t4 := tmod_b a4 501 (by omega)
  have t5 := tmod_b a5 99 (by omega)
  have x5 := fun d => below_cell (reach_below W.heap.size W d) (L0.out.cell 5 CC.out.g5)
  go_upto_region 5 with fail
  refine wp_region_reach W.heap.size (by kernel_rfl) (by kernel_rfl) ?_
  repeat (go_big_quiet_step (fail))
  refine wpQuiet_nil ?_
  rintro w' ⟨d, rfl⟩
  have L1 := Lib.hid (L0.out.below (reach_below W.heap.size W d))
  clear x5 L0
  generalize reach W.heap.size W d = W at *
  have x7 := L1.out.cell 7 CC.out.g7
  have x17 := L1.out.cell 17 CC.out.g17
  have q1 : 0 ≤ (a3.tmod 100001 + 100000 + 1) % 100001 ∧ (a3.tmod 100001 + 100000 + 1) % 100001 < 100001 := ⟨Int.emod_nonneg _ (by omega), Int.emod_lt_of_pos _ (by omega)⟩
  generalize (a3.tmod 100001 + 100000 + 1) % 100001 = Q at *
  go_upto_region 8 with fail
  generalize a4.tmod 501 = M at *
  generalize a5.tmod 99 = E at *
  generalize a3.tmod 100001 = Z at *
  clear b3 b3' b4 b4' b5 b5' t3 x7 x17
  have rf := rest_facts 0 M 0 (by omega)
  obtain ⟨df1, df2, df3, df4, -, -⟩ := down_facts (M * 20) 1000 (by omega)
  have ai := at_in (m := 3) ocv_ok Q
  simp only [show ocvY 0 = 20000 from rfl, show ocvY 3 = 28000 from rfl, Nat.reduceAdd] at ai
  have K1 := Lib.hid fun d => refAtC ⟨O, 0, none⟩ 4 4 ocvX ocvY Q ocv_ok (reach W.heap.size W d) (L1.out.pts.below (reach_below W.heap.size W d))
  have K2 := Lib.hid fun (w : World) => refDown (M * 20) 1000 (by unfold I64; omega) w
  have f0 := span_f0 (atLo 4 ocvX ocvY Q) (atHi 4 ocvX ocvY Q)
  have BH := Lib.hid (fun v u h1 h2 => back_holds (m := 3) (v := v) (u := u) ocv_ok (show ocvX 0 ≤ Q from q1.1) (show Q ≤ ocvX 3 by have : ocvX 3 = 100000 := rfl; omega) h1 h2)
  simp only [Nat.reduceAdd] at BH
  have RL := Lib.hid fun (v : Int) => (show restL v M 100 = v + downI (M * 20) 1000 - 100 from rfl)
  have RH := Lib.hid fun (v : Int) => (show restH v M 100 = v + upI (M * 20) 1000 + 100 from rfl)
  generalize atLo 4 ocvX ocvY Q = al at *
  generalize atHi 4 ocvX ocvY Q = ah at *
  generalize downI (M * 20) 1000 = dn at *
  generalize upI (M * 20) 1000 = up at *
  have g1 : IntKind.i64.wrap (M * 20) = M * 20 := IntWalk.i64_in _ (by omega)
  have g2 : IntKind.i64.wrap (al - dn) = al - dn := IntWalk.i64_in _ (by omega)
  have g3 : IntKind.i64.wrap (al - dn + E) = al - dn + E := IntWalk.i64_in _ (by omega)
  have hB : W.heap.size ≤ W.heap.size := Nat.le_refl _
  have x16 := fun d => below_cell (reach_below W.heap.size W d) (L1.out.cell 16 CC.out.g16)
  have x20 := fun d => below_cell (reach_below W.heap.size W d) (L1.out.cell 20 CC.out.g20)
  refine wp_region_reach W.heap.size (by kernel_rfl) (by kernel_rfl) ?_
  repeat (go_big_quiet_step ((first | (go_at_call 18; with_reducible exact reach_call hB (K1.out _)) | (go_at_call 19; with_reducible exact reach_call0 (K2.out _)))))
  refine wpQuiet_nil ?_
  rintro w' ⟨d, rfl⟩
  have L2 := Lib.hid (L1.out.below (reach_below W.heap.size W d))
  clear x16 x20 L1 K1 K2 f0 g1 g2 g3
  generalize reach W.heap.size W d = W2 at *
  obtain ⟨V, hV⟩ : ∃ V, al - dn + E = V := ⟨_, rfl⟩
  rw [hV]
  have HV := Lib.hid hV
  clear hV
  go_wp2_with (refine wpList_load_row_g (by kernel_rfl) 28 _ rfl w2.heap.size rfl 28 _ (0, 0) _ L2.out.row Tryd.underlying28 rfl hi ?_)
  have hV := HV.out
  refine (sagChargeYes A V M 100 ⟨O, 0, none⟩ 4 4 ocvX ocvY ocv_ok CC.out.hs CC.out.g9 CC.out.g16 CC.out.g17 CC.out.g20 (by omega) (by omega) (by omega) _ L2.out.pts).mono ?_
  rintro e w3 ⟨rfl, hb⟩
  have L3 := Lib.hid (L2.out.below hb)
  have k1 := back_in (m := 3) ocv_ok (restL V M 100)
  have k2 := back_in (m := 3) ocv_ok (restH V M 100)
  simp only [show ocvX 0 = 0 from rfl, show ocvX 3 = 100000 from rfl, Nat.reduceAdd] at k1 k2
  have bh := BH.out (restL V M 100) (restH V M 100) (by rw [RL.out]; omega) (by rw [RH.out]; omega)
  have h1 := bh.1
  have h2 := bh.2
  clear bh BH RL RH hb L2 HV hV
  generalize backLo 4 ocvX ocvY (restL V M 100) = lo at *
  generalize backHi 4 ocvX ocvY (restH V M 100) = hi' at *
  have g1 : decide (lo ≤ Q) = true := decide_eq_true h1
  have g2 : decide (Q ≤ hi') = true := decide_eq_true h2
  have g3 : decide (0 ≤ lo) = true := decide_eq_true k1.1
  have g4 : decide (hi' ≤ 100000) = true := decide_eq_true k2.2.2
  have y5 := fun (o : Obj) => (L3.out.alloc o).cell 5 CC.out.g5
  go_wp2_with fail
  go_returns
  exact ⟨rfl, (L3.out.alloc _).lo⟩
end Go.Proofs.YtakdoagigbjngaaDoor
