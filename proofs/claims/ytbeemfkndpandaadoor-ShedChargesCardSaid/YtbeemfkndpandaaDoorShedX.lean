/- A battery is charged from its own bus alone. Conditions: the table of ends lies as the text lays it. -/
import Derived.Test.YtbeemfkndpandaaDoorShedC
namespace Go.Proofs.YtbeemfkndpandaaDoor
open Go Go.RowKit
set_option linter.unusedVariables false
set_option maxRecDepth 20000
def hotF (h : Bool) : Int := if h then 8 else 0
theorem okUse (f : Int) (u h : Bool) (x cap : Int) : okC f u (hotF h) x cap = true → u = true ∧ h = false ∧ x < cap := by
  intro e
  unfold okC at e
  simp only [Bool.and_eq_true, decide_eq_true_eq] at e
  refine ⟨e.1.2.1, ?_, e.2⟩
  cases h with
  | false => rfl
  | true =>
    have : (bits BinOp.and IntKind.i64 (hotF true) 10 == 0) = false := by decide +kernel
    rw [this] at e
    exact absurd e.1.2.2 (by simp)
def RowF (w : World) (B : Nat) (a b : Int) : Prop := w.heap[B]? = some (.cells #[.int .i64 a, .int .i64 b] 23 (0, 0))
def RowQ (w : World) (B : Nat) (a b : Int) : Prop := w.heap[B]? = some (.cells #[.int .i64 0, .int .i64 a, .int .i64 0, .int .i64 b] 26 (0, 0))
set_option maxHeartbeats 16000000 in
theorem walkShedCharges (a0 : Int) (a1_0 : Bool) (a1_1 : Bool) (a2_0 : Bool) (a2_1 : Bool) (a3_0 : Int) (a3_1 : Int) (w : World) (w0 : (Lit.int .i64 a0).wf = true) (w3_0 : (Lit.int .i64 a3_0).wf = true) (w3_1 : (Lit.int .i64 a3_1).wf = true) (hT : Tab w) :
    Calls Tryd.prog 9 #[.int .i64 a0, .agg #[.bool a1_0, .bool a1_1], .agg #[.bool a2_0, .bool a2_1], .agg #[.int .i64 a3_0, .int .i64 a3_1]] w fun e w' => e = .returned (.bool true) ∧ Below w.heap.size w w' := by
  have HT := Lib.hid hT
  have TM : ∀ a : Int, ∃ t X : Int, a.tmod 100001 = t ∧ -100000 ≤ t ∧ t ≤ 100000 ∧ (t + 100000 + 1).tmod 100001 = X := fun a => ⟨_, _, rfl, by have := Int.tmod_lt_of_pos (-a) (show (0 : Int) < 100001 by omega); rw [Int.neg_tmod] at this; omega, by have := Int.tmod_lt_of_pos a (show (0 : Int) < 100001 by omega); omega, rfl⟩
  obtain ⟨t0, X0, p0, p1, p2, p3⟩ := TM a3_0
  obtain ⟨t1, X1, q0, q1, q2, q3⟩ := TM a3_1
  have v0 : IntKind.i64.wrap (t0 + 100000) = t0 + 100000 := IntWalk.i64_in _ (by omega)
  have v1 : IntKind.i64.wrap (t0 + 100000 + 1) = t0 + 100000 + 1 := IntWalk.i64_in _ (by omega)
  have v2 : IntKind.i64.wrap (t1 + 100000) = t1 + 100000 := IntWalk.i64_in _ (by omega)
  have v3 : IntKind.i64.wrap (t1 + 100000 + 1) = t1 + 100000 + 1 := IntWalk.i64_in _ (by omega)
  clear TM
  clear w0 w3_0 w3_1 hT
  go_enter Tryd.func9, Tryd.ntmps9
  go_upto_region 1 with fail
  have BA := Lib.hid (Bx3.new w #[.bool a1_0, .bool a1_1] 22 #[.bool a2_0, .bool a2_1] 22 #[.int .i64 a3_0, .int .i64 a3_1] 54)
  generalize World.alloc (World.alloc (World.alloc w _) _) _ = W at *
  go_wp2_with fail
  refine (first25 W (HT.out.below BA.out.lo)).mono ?_
  rintro e wa ⟨rfl, hba⟩
  have BB := Lib.hid (BA.out.below hba)
  clear hba BA
  go_wp2_with fail
  refine (configF 0 0 0 wa).mono ?_
  rintro e w4 ⟨O, fa, fc, rfl, hO, ho, hf, hb⟩
  have BC := Lib.hid (BB.out.below hb)
  unfold cfgV
  rw [cgA_of]
  clear hb ho hf hO BB
  have hcap : (cfgOf (0 % 1048576) (0 % 1048576) (0 % 1048576)).cg.Cap = 100000 := rfl
  generalize ((0 : Int) % 1048576 / 20 % 7).toNat = fn at *
  generalize (cfgOf (0 % 1048576) (0 % 1048576) (0 % 1048576)).cg = c at *
  go_wp2_with fail
  refine upon_fresh (by simp) rfl (by kernel_rfl) ?_
  intro W1 b1 s1 h1
  have R8 := Lib.hid (show Rw W1 w4.heap.size c (.slice (some ⟨O, 0, none⟩) 4 4) (.slice fa fn fc) from h1)
  have BD := Lib.hid (BC.out.below b1)
  have s1 : W1.heap.size = w4.heap.size + 1 := s1
  clear h1 b1 BC
  go_wp2_with fail
  refine (numbC a0 128 (by omega) (by omega) W1).mono ?_
  rintro e w' ⟨rfl, rfl⟩
  generalize a0 % 128 = sh at *
  go_upto_region 8 with fail
  generalize hW : World.alloc (World.alloc W1 _) _ = W2
  have T2 : Bx2 W1 W2 #[.int .i64 0, .int .i64 0] 23 #[.int .i64 0, .int .i64 0, .int .i64 0, .int .i64 0] 26 := by rw [← hW]; exact Bx2.new W1 _ _ _ _
  have rF : RowF W2 (w4.heap.size + 1) 0 0 := by have := T2.row1; rwa [s1] at this
  have rQ : RowQ W2 (w4.heap.size + 1 + 1) 0 0 := by have := T2.row2; rwa [s1] at this
  have BF := Lib.hid rF
  have BQ := Lib.hid rQ
  have B2 := Lib.hid T2.lo
  clear hW T2 rF rQ
  go_wp2_with fail
  go_loopw [13, 14] (fun v v14 wr => ∃ (i : Nat) (f0 f1 x0 x1 : Int), i ≤ 2 ∧ v = .int .i64 i ∧ RowF wr (w4.heap.size + 1) f0 f1 ∧ RowQ wr (w4.heap.size + 1 + 1) x0 x1 ∧ f0 = (if 1 ≤ i then hotF a2_0 else 0) ∧ f1 = (if 2 ≤ i then hotF a2_1 else 0) ∧ Below W1.heap.size W1 wr) (fun v _ _ => 2 - (intOf v).toNat)
  case atStart => exact ⟨0, 0, 0, 0, 0, by omega, rfl, BF.out, BQ.out, rfl, rfl, B2.out⟩
  case round =>
    obtain ⟨i, f0, f1, x0, x1, hi, rfl, hF, hQ, e0, e1, hb⟩ := hrel
    have RF := Lib.hid hF
    have RQ := Lib.hid hQ
    have HB := Lib.hid hb
    have BX := Lib.hid (BD.out.below hb)
    have RC := Lib.hid (R8.out.below hb (by omega))
    clear hF hQ hb
    rcases (show i = 0 ∨ i = 1 ∨ i = 2 by omega) with rfl | rfl | rfl
    · rw [show ((0 : Nat) : Int) = 0 from rfl]
      have ch : wr.cell? ⟨w.heap.size + 1, 0, none⟩ = some (.bool a2_0) := BX.out.c1 0 rfl
      have cF : wr.cell? ⟨w4.heap.size + 1, 0, none⟩ = some (.int .i64 f0) := (cell_of_row _ _ 0 _ _ _ RF.out).trans rfl
      have fF : wr.frozen? ⟨w4.heap.size + 1, 0, none⟩ = false := by have := RF.out; unfold RowF at this; simp [World.frozen?, this]
      have E1 : f1 = if 2 ≤ 1 then hotF a2_1 else 0 := e1
      cases a2_0
      · have e9 : f0 = 0 := by rw [e0]; rfl
        subst e9
        clear e0 e1
        have BXz := BX
        have RCz := RC
        have HBz := HB
        have RFz := RF
        have RQz := RQ
        go_upto_region 13 with fail
        clear cF fF ch BX RC HB RF RQ
        rename World => wz
        have cl := fun d => below_cell (reach_below wz.heap.size wz d) (show wz.cell? ⟨w.heap.size + 1 + 1, 0, none⟩ = some (.int .i64 a3_0) from BXz.out.c2 0 rfl)
        have cc := fun d => below_cell (reach_below wz.heap.size wz d) (show wz.cell? ⟨w4.heap.size, 5, none⟩ = some (.int .i64 100000) by rw [← hcap]; exact RCz.out.cell 5 rfl)
        refine wp_region_reach wz.heap.size (by kernel_rfl) (by kernel_rfl) ?_
        repeat (go_big_quiet_step (fail))
        refine wpQuiet_nil ?_
        rintro w' ⟨d, rfl⟩
        have hsz : W1.heap.size ≤ wz.heap.size := HBz.out.size
        have H6 := Lib.hid (HBz.out.trans ((reach_below wz.heap.size wz d).mono HBz.out.size))
        have RF6 := Lib.hid (show RowF (reach wz.heap.size wz d) (w4.heap.size + 1) _ _ from ((reach_below wz.heap.size wz d).block _ (Array.getElem?_eq_some_iff.1 RFz.out).1).trans RFz.out)
        have RQ6 := Lib.hid (show RowQ (reach wz.heap.size wz d) (w4.heap.size + 1 + 1) x0 x1 from ((reach_below wz.heap.size wz d).block _ (Array.getElem?_eq_some_iff.1 RQz.out).1).trans RQz.out)
        clear cl cc BXz RCz HBz RFz RQz hsz
        generalize reach wz.heap.size wz d = w6 at *
        have k0 : w6.cell? ⟨w4.heap.size + 1 + 1, 0, none⟩ = some (.int .i64 0) := (cell_of_row _ _ 0 _ _ _ RQ6.out).trans rfl
        have k1 : w6.cell? ⟨w4.heap.size + 1 + 1, 1, none⟩ = some (.int .i64 x0) := (cell_of_row _ _ 1 _ _ _ RQ6.out).trans rfl
        have kf : ∀ j, w6.frozen? ⟨w4.heap.size + 1 + 1, j, none⟩ = false := fun j => by have := RQ6.out; unfold RowQ at this; simp [World.frozen?, this]
        have RQ7 := Lib.hid (show RowQ ((w6.setCell ⟨w4.heap.size + 1 + 1, 0, none⟩ (.int .i64 0)).setCell ⟨w4.heap.size + 1 + 1, 1, none⟩ (.int .i64 X0)) (w4.heap.size + 1 + 1) X0 x1 from
          heap_setCell_same _ _ 1 _ _ _ (heap_setCell_same w6 _ 0 _ _ _ RQ6.out))
        have RF7 := Lib.hid (show RowF ((w6.setCell ⟨w4.heap.size + 1 + 1, 0, none⟩ (.int .i64 0)).setCell ⟨w4.heap.size + 1 + 1, 1, none⟩ (.int .i64 X0)) (w4.heap.size + 1) 0 f1 from
          (heap_setCell_other _ ⟨_, _, _⟩ _ _ (by simp)).trans ((heap_setCell_other w6 ⟨_, _, _⟩ _ _ (by simp)).trans RF6.out))
        have H7 := Lib.hid ((H6.out.setCell (p := ⟨w4.heap.size + 1 + 1, 0, none⟩) (show W1.heap.size ≤ w4.heap.size + 1 + 1 by omega) (.int .i64 0)).setCell (p := ⟨w4.heap.size + 1 + 1, 1, none⟩) (show W1.heap.size ≤ w4.heap.size + 1 + 1 by omega) (.int .i64 X0))
        clear RQ6 RF6 H6
        go_wp2_with fail
        go_roundw
        case rel => exact ⟨1, 0, f1, X0, x1, by omega, by go_num, RF7.out, RQ7.out, rfl, E1, H7.out⟩
        case measure => simp [intOf]
      · clear e0 e1
        go_upto_region 13 with fail
        have RFz := Lib.hid (show RowF (wr.setCell ⟨w4.heap.size + 1, 0, none⟩ (.int .i64 8)) (w4.heap.size + 1) 8 f1 from heap_setCell_same wr _ 0 _ _ _ RF.out)
        have RQz := Lib.hid (show RowQ (wr.setCell ⟨w4.heap.size + 1, 0, none⟩ (.int .i64 8)) (w4.heap.size + 1 + 1) x0 x1 from (heap_setCell_other wr ⟨_, _, _⟩ _ _ (by simp)).trans RQ.out)
        have HBz := Lib.hid (HB.out.setCell (p := ⟨w4.heap.size + 1, 0, none⟩) (show W1.heap.size ≤ w4.heap.size + 1 by omega) (.int .i64 8))
        clear cF fF ch BX RC HB RF RQ
        generalize World.setCell wr _ _ = wz at *
        have BXz := Lib.hid (BD.out.below HBz.out)
        have RCz := Lib.hid (R8.out.below HBz.out (by omega))
        have cl := fun d => below_cell (reach_below wz.heap.size wz d) (show wz.cell? ⟨w.heap.size + 1 + 1, 0, none⟩ = some (.int .i64 a3_0) from BXz.out.c2 0 rfl)
        have cc := fun d => below_cell (reach_below wz.heap.size wz d) (show wz.cell? ⟨w4.heap.size, 5, none⟩ = some (.int .i64 100000) by rw [← hcap]; exact RCz.out.cell 5 rfl)
        refine wp_region_reach wz.heap.size (by kernel_rfl) (by kernel_rfl) ?_
        repeat (go_big_quiet_step (fail))
        refine wpQuiet_nil ?_
        rintro w' ⟨d, rfl⟩
        have hsz : W1.heap.size ≤ wz.heap.size := HBz.out.size
        have H6 := Lib.hid (HBz.out.trans ((reach_below wz.heap.size wz d).mono HBz.out.size))
        have RF6 := Lib.hid (show RowF (reach wz.heap.size wz d) (w4.heap.size + 1) _ _ from ((reach_below wz.heap.size wz d).block _ (Array.getElem?_eq_some_iff.1 RFz.out).1).trans RFz.out)
        have RQ6 := Lib.hid (show RowQ (reach wz.heap.size wz d) (w4.heap.size + 1 + 1) x0 x1 from ((reach_below wz.heap.size wz d).block _ (Array.getElem?_eq_some_iff.1 RQz.out).1).trans RQz.out)
        clear cl cc BXz RCz HBz RFz RQz hsz
        generalize reach wz.heap.size wz d = w6 at *
        have k0 : w6.cell? ⟨w4.heap.size + 1 + 1, 0, none⟩ = some (.int .i64 0) := (cell_of_row _ _ 0 _ _ _ RQ6.out).trans rfl
        have k1 : w6.cell? ⟨w4.heap.size + 1 + 1, 1, none⟩ = some (.int .i64 x0) := (cell_of_row _ _ 1 _ _ _ RQ6.out).trans rfl
        have kf : ∀ j, w6.frozen? ⟨w4.heap.size + 1 + 1, j, none⟩ = false := fun j => by have := RQ6.out; unfold RowQ at this; simp [World.frozen?, this]
        have RQ7 := Lib.hid (show RowQ ((w6.setCell ⟨w4.heap.size + 1 + 1, 0, none⟩ (.int .i64 0)).setCell ⟨w4.heap.size + 1 + 1, 1, none⟩ (.int .i64 X0)) (w4.heap.size + 1 + 1) X0 x1 from
          heap_setCell_same _ _ 1 _ _ _ (heap_setCell_same w6 _ 0 _ _ _ RQ6.out))
        have RF7 := Lib.hid (show RowF ((w6.setCell ⟨w4.heap.size + 1 + 1, 0, none⟩ (.int .i64 0)).setCell ⟨w4.heap.size + 1 + 1, 1, none⟩ (.int .i64 X0)) (w4.heap.size + 1) 8 f1 from
          (heap_setCell_other _ ⟨_, _, _⟩ _ _ (by simp)).trans ((heap_setCell_other w6 ⟨_, _, _⟩ _ _ (by simp)).trans RF6.out))
        have H7 := Lib.hid ((H6.out.setCell (p := ⟨w4.heap.size + 1 + 1, 0, none⟩) (show W1.heap.size ≤ w4.heap.size + 1 + 1 by omega) (.int .i64 0)).setCell (p := ⟨w4.heap.size + 1 + 1, 1, none⟩) (show W1.heap.size ≤ w4.heap.size + 1 + 1 by omega) (.int .i64 X0))
        clear RQ6 RF6 H6
        go_wp2_with fail
        go_roundw
        case rel => exact ⟨1, 8, f1, X0, x1, by omega, by go_num, RF7.out, RQ7.out, rfl, E1, H7.out⟩
        case measure => simp [intOf]
    · rw [show ((1 : Nat) : Int) = 1 from rfl]
      have ch : wr.cell? ⟨w.heap.size + 1, 1, none⟩ = some (.bool a2_1) := BX.out.c1 1 rfl
      have cF : wr.cell? ⟨w4.heap.size + 1, 1, none⟩ = some (.int .i64 f1) := (cell_of_row _ _ 1 _ _ _ RF.out).trans rfl
      have fF : wr.frozen? ⟨w4.heap.size + 1, 1, none⟩ = false := by have := RF.out; unfold RowF at this; simp [World.frozen?, this]
      have E0 : f0 = if 1 ≤ 2 then hotF a2_0 else 0 := e0
      cases a2_1
      · have e9 : f1 = 0 := by rw [e1]; rfl
        subst e9
        clear e0 e1
        have BXz := BX
        have RCz := RC
        have HBz := HB
        have RFz := RF
        have RQz := RQ
        go_upto_region 13 with fail
        clear cF fF ch BX RC HB RF RQ
        rename World => wz
        have cl := fun d => below_cell (reach_below wz.heap.size wz d) (show wz.cell? ⟨w.heap.size + 1 + 1, 1, none⟩ = some (.int .i64 a3_1) from BXz.out.c2 1 rfl)
        have cc := fun d => below_cell (reach_below wz.heap.size wz d) (show wz.cell? ⟨w4.heap.size, 5, none⟩ = some (.int .i64 100000) by rw [← hcap]; exact RCz.out.cell 5 rfl)
        refine wp_region_reach wz.heap.size (by kernel_rfl) (by kernel_rfl) ?_
        repeat (go_big_quiet_step (fail))
        refine wpQuiet_nil ?_
        rintro w' ⟨d, rfl⟩
        have hsz : W1.heap.size ≤ wz.heap.size := HBz.out.size
        have H6 := Lib.hid (HBz.out.trans ((reach_below wz.heap.size wz d).mono HBz.out.size))
        have RF6 := Lib.hid (show RowF (reach wz.heap.size wz d) (w4.heap.size + 1) _ _ from ((reach_below wz.heap.size wz d).block _ (Array.getElem?_eq_some_iff.1 RFz.out).1).trans RFz.out)
        have RQ6 := Lib.hid (show RowQ (reach wz.heap.size wz d) (w4.heap.size + 1 + 1) x0 x1 from ((reach_below wz.heap.size wz d).block _ (Array.getElem?_eq_some_iff.1 RQz.out).1).trans RQz.out)
        clear cl cc BXz RCz HBz RFz RQz hsz
        generalize reach wz.heap.size wz d = w6 at *
        have k0 : w6.cell? ⟨w4.heap.size + 1 + 1, 2, none⟩ = some (.int .i64 0) := (cell_of_row _ _ 2 _ _ _ RQ6.out).trans rfl
        have k1 : w6.cell? ⟨w4.heap.size + 1 + 1, 3, none⟩ = some (.int .i64 x1) := (cell_of_row _ _ 3 _ _ _ RQ6.out).trans rfl
        have kf : ∀ j, w6.frozen? ⟨w4.heap.size + 1 + 1, j, none⟩ = false := fun j => by have := RQ6.out; unfold RowQ at this; simp [World.frozen?, this]
        have RQ7 := Lib.hid (show RowQ ((w6.setCell ⟨w4.heap.size + 1 + 1, 2, none⟩ (.int .i64 0)).setCell ⟨w4.heap.size + 1 + 1, 3, none⟩ (.int .i64 X1)) (w4.heap.size + 1 + 1) x0 X1 from
          heap_setCell_same _ _ 3 _ _ _ (heap_setCell_same w6 _ 2 _ _ _ RQ6.out))
        have RF7 := Lib.hid (show RowF ((w6.setCell ⟨w4.heap.size + 1 + 1, 2, none⟩ (.int .i64 0)).setCell ⟨w4.heap.size + 1 + 1, 3, none⟩ (.int .i64 X1)) (w4.heap.size + 1) f0 0 from
          (heap_setCell_other _ ⟨_, _, _⟩ _ _ (by simp)).trans ((heap_setCell_other w6 ⟨_, _, _⟩ _ _ (by simp)).trans RF6.out))
        have H7 := Lib.hid ((H6.out.setCell (p := ⟨w4.heap.size + 1 + 1, 2, none⟩) (show W1.heap.size ≤ w4.heap.size + 1 + 1 by omega) (.int .i64 0)).setCell (p := ⟨w4.heap.size + 1 + 1, 3, none⟩) (show W1.heap.size ≤ w4.heap.size + 1 + 1 by omega) (.int .i64 X1))
        clear RQ6 RF6 H6
        go_wp2_with fail
        go_roundw
        case rel => exact ⟨2, f0, 0, x0, X1, by omega, by go_num, RF7.out, RQ7.out, E0, rfl, H7.out⟩
        case measure => simp [intOf]
      · clear e0 e1
        go_upto_region 13 with fail
        have RFz := Lib.hid (show RowF (wr.setCell ⟨w4.heap.size + 1, 1, none⟩ (.int .i64 8)) (w4.heap.size + 1) f0 8 from heap_setCell_same wr _ 1 _ _ _ RF.out)
        have RQz := Lib.hid (show RowQ (wr.setCell ⟨w4.heap.size + 1, 1, none⟩ (.int .i64 8)) (w4.heap.size + 1 + 1) x0 x1 from (heap_setCell_other wr ⟨_, _, _⟩ _ _ (by simp)).trans RQ.out)
        have HBz := Lib.hid (HB.out.setCell (p := ⟨w4.heap.size + 1, 1, none⟩) (show W1.heap.size ≤ w4.heap.size + 1 by omega) (.int .i64 8))
        clear cF fF ch BX RC HB RF RQ
        generalize World.setCell wr _ _ = wz at *
        have BXz := Lib.hid (BD.out.below HBz.out)
        have RCz := Lib.hid (R8.out.below HBz.out (by omega))
        have cl := fun d => below_cell (reach_below wz.heap.size wz d) (show wz.cell? ⟨w.heap.size + 1 + 1, 1, none⟩ = some (.int .i64 a3_1) from BXz.out.c2 1 rfl)
        have cc := fun d => below_cell (reach_below wz.heap.size wz d) (show wz.cell? ⟨w4.heap.size, 5, none⟩ = some (.int .i64 100000) by rw [← hcap]; exact RCz.out.cell 5 rfl)
        refine wp_region_reach wz.heap.size (by kernel_rfl) (by kernel_rfl) ?_
        repeat (go_big_quiet_step (fail))
        refine wpQuiet_nil ?_
        rintro w' ⟨d, rfl⟩
        have hsz : W1.heap.size ≤ wz.heap.size := HBz.out.size
        have H6 := Lib.hid (HBz.out.trans ((reach_below wz.heap.size wz d).mono HBz.out.size))
        have RF6 := Lib.hid (show RowF (reach wz.heap.size wz d) (w4.heap.size + 1) _ _ from ((reach_below wz.heap.size wz d).block _ (Array.getElem?_eq_some_iff.1 RFz.out).1).trans RFz.out)
        have RQ6 := Lib.hid (show RowQ (reach wz.heap.size wz d) (w4.heap.size + 1 + 1) x0 x1 from ((reach_below wz.heap.size wz d).block _ (Array.getElem?_eq_some_iff.1 RQz.out).1).trans RQz.out)
        clear cl cc BXz RCz HBz RFz RQz hsz
        generalize reach wz.heap.size wz d = w6 at *
        have k0 : w6.cell? ⟨w4.heap.size + 1 + 1, 2, none⟩ = some (.int .i64 0) := (cell_of_row _ _ 2 _ _ _ RQ6.out).trans rfl
        have k1 : w6.cell? ⟨w4.heap.size + 1 + 1, 3, none⟩ = some (.int .i64 x1) := (cell_of_row _ _ 3 _ _ _ RQ6.out).trans rfl
        have kf : ∀ j, w6.frozen? ⟨w4.heap.size + 1 + 1, j, none⟩ = false := fun j => by have := RQ6.out; unfold RowQ at this; simp [World.frozen?, this]
        have RQ7 := Lib.hid (show RowQ ((w6.setCell ⟨w4.heap.size + 1 + 1, 2, none⟩ (.int .i64 0)).setCell ⟨w4.heap.size + 1 + 1, 3, none⟩ (.int .i64 X1)) (w4.heap.size + 1 + 1) x0 X1 from
          heap_setCell_same _ _ 3 _ _ _ (heap_setCell_same w6 _ 2 _ _ _ RQ6.out))
        have RF7 := Lib.hid (show RowF ((w6.setCell ⟨w4.heap.size + 1 + 1, 2, none⟩ (.int .i64 0)).setCell ⟨w4.heap.size + 1 + 1, 3, none⟩ (.int .i64 X1)) (w4.heap.size + 1) f0 8 from
          (heap_setCell_other _ ⟨_, _, _⟩ _ _ (by simp)).trans ((heap_setCell_other w6 ⟨_, _, _⟩ _ _ (by simp)).trans RF6.out))
        have H7 := Lib.hid ((H6.out.setCell (p := ⟨w4.heap.size + 1 + 1, 2, none⟩) (show W1.heap.size ≤ w4.heap.size + 1 + 1 by omega) (.int .i64 0)).setCell (p := ⟨w4.heap.size + 1 + 1, 3, none⟩) (show W1.heap.size ≤ w4.heap.size + 1 + 1 by omega) (.int .i64 X1))
        clear RQ6 RF6 H6
        go_wp2_with fail
        go_roundw
        case rel => exact ⟨2, f0, 8, x0, X1, by omega, by go_num, RF7.out, RQ7.out, E0, rfl, H7.out⟩
        case measure => simp [intOf]
    · have f0e : f0 = hotF a2_0 := e0
      have f1e : f1 = hotF a2_1 := e1
      subst f0e f1e
      clear e0 e1
      have KC := Lib.hid (chargersC c (.slice (some ⟨O, 0, none⟩) 4 4) (.slice fa fn fc) sh a1_0 a1_1 (hotF a2_0) (hotF a2_1) 0 x0 0 x1 wr (HT.out.below BX.out.lo))
      have U := Lib.hid fun (fv0 : Int) (u h : Bool) (x : Int) => okUse fv0 u h x c.Cap
      rw [hcap] at U KC
      obtain ⟨s4, hs4⟩ : ∃ s, fv (BitVec.ofInt 7 sh) 4 = s := ⟨_, rfl⟩
      obtain ⟨s5, hs5⟩ : ∃ s, fv (BitVec.ofInt 7 sh) 5 = s := ⟨_, rfl⟩
      rw [hs4, hs5] at KC
      have U0 := U.out s4 a1_0 a2_0 x0
      have U1 := U.out s5 a1_1 a2_1 x1
      clear hs4 hs5 U
      generalize okC s4 a1_0 (hotF a2_0) x0 100000 = o0 at *
      generalize okC s5 a1_1 (hotF a2_1) x1 100000 = o1 at *
      have V0 := Lib.hid U0
      have V1 := Lib.hid U1
      clear U0 U1
      go_wp2_with (first
        | refine wpList_load_row_g (by kernel_rfl) 31 _ rfl w4.heap.size rfl 31 _ (0, 0) _ RC.out Tryd.underlying31 rfl (by kernel_rfl) ?_
        | refine wpList_load_row_g (by kernel_rfl) 22 _ rfl (w.heap.size) rfl 22 _ (0, 0) _ BX.out.r0 Tryd.underlying22 rfl (by kernel_rfl) ?_
        | refine wpList_load_row_g (by kernel_rfl) 23 _ rfl (w4.heap.size + 1) rfl 23 _ (0, 0) _ RF.out Tryd.underlying23 rfl (by kernel_rfl) ?_
        | refine wpList_load_row_g (by kernel_rfl) 26 _ rfl (w4.heap.size + 1 + 1) rfl 26 _ (0, 0) _ RQ.out Tryd.underlying26 rfl (by kernel_rfl) ?_)
      refine KC.out.mono ?_
      rintro e w7 ⟨rfl, hb⟩
      have H7 := Lib.hid (HB.out.trans (hb.mono HB.out.size))
      have RQ7 := Lib.hid (show RowQ w7 (w4.heap.size + 1 + 1) x0 x1 from (hb.block _ (Array.getElem?_eq_some_iff.1 RQ.out).1).trans RQ.out)
      clear hb RF RQ HB BX RC KC BF BQ B2
      have M0 : chV false false = 0 := rfl
      have M1 : chV true false = 1 := by decide +kernel
      have M2 : chV false true = 2 := by decide +kernel
      have M3 : chV true true = 3 := by decide +kernel
      have A0 : (bits BinOp.and IntKind.i64 0 1 == 1) = false := by decide +kernel
      have A1 : (bits BinOp.and IntKind.i64 1 1 == 1) = true := by decide +kernel
      have A2 : (bits BinOp.and IntKind.i64 2 1 == 1) = false := by decide +kernel
      have A3 : (bits BinOp.and IntKind.i64 3 1 == 1) = true := by decide +kernel
      have C1 : chV (okC (fv (BitVec.ofInt 7 1) 4) true 0 5 100000) (okC (fv (BitVec.ofInt 7 1) 5) true 0 5 100000) = 1 := by decide +kernel
      have C2 : chV (okC (fv (BitVec.ofInt 7 8) 4) true 0 5 100000) (okC (fv (BitVec.ofInt 7 8) 5) true 0 5 100000) = 2 := by decide +kernel
      have C3 : chV (okC (fv (BitVec.ofInt 7 6) 4) true 0 5 100000) (okC (fv (BitVec.ofInt 7 6) 5) true 0 5 100000) = 0 := by decide +kernel
      have C4 : chV (okC (fv (BitVec.ofInt 7 17) 4) true 0 5 100000) (okC (fv (BitVec.ofInt 7 17) 5) true 0 5 100000) = 3 := by decide +kernel
      have KK := Lib.hid fun (s : Int) (u : World) (hu : Below W1.heap.size W1 u) => chargersC c (.slice (some ⟨O, 0, none⟩) 4 4) (.slice fa fn fc) s true true 0 0 0 5 0 5 u (HT.out.below (BD.out.below hu).lo)
      rw [hcap] at KK
      have D1 := Lib.hid fun (u : World) (hu : Below W1.heap.size W1 u) => KK.out 1 u hu
      have D2 := Lib.hid fun (u : World) (hu : Below W1.heap.size W1 u) => KK.out 8 u hu
      have D3 := Lib.hid fun (u : World) (hu : Below W1.heap.size W1 u) => KK.out 6 u hu
      have D4 := Lib.hid fun (u : World) (hu : Below W1.heap.size W1 u) => KK.out 17 u hu
      simp only [C1] at D1
      simp only [C2] at D2
      simp only [C3] at D3
      simp only [C4] at D4
      have NE := Lib.hid (show w4.heap.size < W1.heap.size by omega)
      have CAP := Lib.hid hcap
      clear C1 C2 C3 C4 KK hcap s1
      cases o0
      · cases o1
        · rw [M0]
          go_wp2_with fail
          go_loopw [16] (fun v wr => ∃ i : Nat, i ≤ 2 ∧ v = .int .i64 i ∧ RowQ wr (w4.heap.size + 1 + 1) x0 x1 ∧ Below W1.heap.size W1 wr) (fun v _ => 2 - (intOf v).toNat)
          case atStart => exact ⟨0, by omega, rfl, RQ7.out, H7.out⟩
          case round =>
            obtain ⟨i, hi, rfl, hq, hb⟩ := hrel
            have RQ8 := Lib.hid hq
            have H8 := Lib.hid hb
            have BY := Lib.hid (BD.out.below hb)
            have RC8 := Lib.hid (R8.out.below hb NE.out)
            clear hq hb
            rcases (show i = 0 ∨ i = 1 ∨ i = 2 by omega) with rfl | rfl | rfl
            · rw [show ((0 : Nat) : Int) = 0 from rfl]
              go_upto_region 19 with fail
              refine wp_region_reach wr.heap.size (by kernel_rfl) (by kernel_rfl) ?_
              repeat (go_big_quiet_step (fail))
              refine wpQuiet_nil ?_
              rintro w' ⟨d, rfl⟩
              have H9 := Lib.hid (H8.out.trans ((reach_below wr.heap.size wr d).mono H8.out.size))
              have RQ9 := Lib.hid (show RowQ (reach wr.heap.size wr d) (w4.heap.size + 1 + 1) x0 x1 from ((reach_below wr.heap.size wr d).block _ (Array.getElem?_eq_some_iff.1 RQ8.out).1).trans RQ8.out)
              generalize reach wr.heap.size wr d = w9 at *
              go_wp2_with fail
              go_roundw
              case rel => exact ⟨1, by omega, by go_num, RQ9.out, H9.out⟩
              case measure => simp [intOf]
            · rw [show ((1 : Nat) : Int) = 1 from rfl]
              go_upto_region 19 with fail
              refine wp_region_reach wr.heap.size (by kernel_rfl) (by kernel_rfl) ?_
              repeat (go_big_quiet_step (fail))
              refine wpQuiet_nil ?_
              rintro w' ⟨d, rfl⟩
              have H9 := Lib.hid (H8.out.trans ((reach_below wr.heap.size wr d).mono H8.out.size))
              have RQ9 := Lib.hid (show RowQ (reach wr.heap.size wr d) (w4.heap.size + 1 + 1) x0 x1 from ((reach_below wr.heap.size wr d).block _ (Array.getElem?_eq_some_iff.1 RQ8.out).1).trans RQ8.out)
              generalize reach wr.heap.size wr d = w9 at *
              go_wp2_with fail
              go_roundw
              case rel => exact ⟨2, by omega, by go_num, RQ9.out, H9.out⟩
              case measure => simp [intOf]
            · rw [show ((2 : Nat) : Int) = 2 from rfl]
              go_upto_region 23 with fail
              generalize hW : World.alloc (World.alloc wr _) _ = wz
              have T2 : Bx2 wr wz #[.bool true, .bool true] 22 #[.int .i64 0, .int .i64 5, .int .i64 0, .int .i64 5] 26 := by rw [← hW]; exact Bx2.new wr _ _ _ _
              have Hz := Lib.hid (H8.out.trans (T2.lo.mono H8.out.size))
              have TZ := Lib.hid T2
              have RZ := Lib.hid (R8.out.below Hz.out NE.out)
              clear hW T2 RC8 BY RQ8
              go_wp2_with (first
                | refine wpList_load_row_g (by kernel_rfl) 31 _ rfl w4.heap.size rfl 31 _ (0, 0) _ RZ.out Tryd.underlying31 rfl (by kernel_rfl) ?_
                | refine wpList_load_row_g (by kernel_rfl) 22 _ rfl (wr.heap.size) rfl 22 _ (0, 0) _ TZ.out.row1 Tryd.underlying22 rfl (by kernel_rfl) ?_
                | refine wpList_load_row_g (by kernel_rfl) 26 _ rfl (wr.heap.size + 1) rfl 26 _ (0, 0) _ TZ.out.row2 Tryd.underlying26 rfl (by kernel_rfl) ?_)
              refine (D1.out _ Hz.out).mono ?_
              rintro e u1 ⟨rfl, hb⟩
              have Y1 := Lib.hid (Hz.out.trans (hb.mono Hz.out.size))
              have T1 := Lib.hid (TZ.out.below hb)
              have R1 := Lib.hid (R8.out.below Y1.out NE.out)
              clear hb
              go_wp2_with (first
                | refine wpList_load_row_g (by kernel_rfl) 31 _ rfl w4.heap.size rfl 31 _ (0, 0) _ R1.out Tryd.underlying31 rfl (by kernel_rfl) ?_
                | refine wpList_load_row_g (by kernel_rfl) 22 _ rfl (wr.heap.size) rfl 22 _ (0, 0) _ T1.out.row1 Tryd.underlying22 rfl (by kernel_rfl) ?_
                | refine wpList_load_row_g (by kernel_rfl) 26 _ rfl (wr.heap.size + 1) rfl 26 _ (0, 0) _ T1.out.row2 Tryd.underlying26 rfl (by kernel_rfl) ?_)
              refine (D2.out _ Y1.out).mono ?_
              rintro e u2 ⟨rfl, hb⟩
              have Y2 := Lib.hid (Y1.out.trans (hb.mono Y1.out.size))
              have T2 := Lib.hid (T1.out.below hb)
              have R2 := Lib.hid (R8.out.below Y2.out NE.out)
              clear hb
              go_wp2_with (first
                | refine wpList_load_row_g (by kernel_rfl) 31 _ rfl w4.heap.size rfl 31 _ (0, 0) _ R2.out Tryd.underlying31 rfl (by kernel_rfl) ?_
                | refine wpList_load_row_g (by kernel_rfl) 22 _ rfl (wr.heap.size) rfl 22 _ (0, 0) _ T2.out.row1 Tryd.underlying22 rfl (by kernel_rfl) ?_
                | refine wpList_load_row_g (by kernel_rfl) 26 _ rfl (wr.heap.size + 1) rfl 26 _ (0, 0) _ T2.out.row2 Tryd.underlying26 rfl (by kernel_rfl) ?_)
              refine (D3.out _ Y2.out).mono ?_
              rintro e u3 ⟨rfl, hb⟩
              have Y3 := Lib.hid (Y2.out.trans (hb.mono Y2.out.size))
              have T3 := Lib.hid (T2.out.below hb)
              have R3 := Lib.hid (R8.out.below Y3.out NE.out)
              clear hb
              go_wp2_with (first
                | refine wpList_load_row_g (by kernel_rfl) 31 _ rfl w4.heap.size rfl 31 _ (0, 0) _ R3.out Tryd.underlying31 rfl (by kernel_rfl) ?_
                | refine wpList_load_row_g (by kernel_rfl) 22 _ rfl (wr.heap.size) rfl 22 _ (0, 0) _ T3.out.row1 Tryd.underlying22 rfl (by kernel_rfl) ?_
                | refine wpList_load_row_g (by kernel_rfl) 26 _ rfl (wr.heap.size + 1) rfl 26 _ (0, 0) _ T3.out.row2 Tryd.underlying26 rfl (by kernel_rfl) ?_)
              refine (D4.out _ Y3.out).mono ?_
              rintro e u4 ⟨rfl, hb⟩
              have Y4 := Lib.hid (Y3.out.trans (hb.mono Y3.out.size))
              clear hb
              go_wp2_with fail
              go_returns
              exact ⟨rfl, (BD.out.below Y4.out).lo⟩
        · rw [M2]
          go_wp2_with fail
          go_loopw [16] (fun v wr => ∃ i : Nat, i ≤ 2 ∧ v = .int .i64 i ∧ RowQ wr (w4.heap.size + 1 + 1) x0 x1 ∧ Below W1.heap.size W1 wr) (fun v _ => 2 - (intOf v).toNat)
          case atStart => exact ⟨0, by omega, rfl, RQ7.out, H7.out⟩
          case round =>
            obtain ⟨i, hi, rfl, hq, hb⟩ := hrel
            have RQ8 := Lib.hid hq
            have H8 := Lib.hid hb
            have BY := Lib.hid (BD.out.below hb)
            have RC8 := Lib.hid (R8.out.below hb NE.out)
            clear hq hb
            rcases (show i = 0 ∨ i = 1 ∨ i = 2 by omega) with rfl | rfl | rfl
            · rw [show ((0 : Nat) : Int) = 0 from rfl]
              go_upto_region 19 with fail
              refine wp_region_reach wr.heap.size (by kernel_rfl) (by kernel_rfl) ?_
              repeat (go_big_quiet_step (fail))
              refine wpQuiet_nil ?_
              rintro w' ⟨d, rfl⟩
              have H9 := Lib.hid (H8.out.trans ((reach_below wr.heap.size wr d).mono H8.out.size))
              have RQ9 := Lib.hid (show RowQ (reach wr.heap.size wr d) (w4.heap.size + 1 + 1) x0 x1 from ((reach_below wr.heap.size wr d).block _ (Array.getElem?_eq_some_iff.1 RQ8.out).1).trans RQ8.out)
              generalize reach wr.heap.size wr d = w9 at *
              go_wp2_with fail
              go_roundw
              case rel => exact ⟨1, by omega, by go_num, RQ9.out, H9.out⟩
              case measure => simp [intOf]
            · rw [show ((1 : Nat) : Int) = 1 from rfl]
              go_upto_region 19 with fail
              have cu := fun d => below_cell (reach_below wr.heap.size wr d) (show wr.cell? ⟨w.heap.size, 1, none⟩ = some (.bool true) by rw [← (V1.out (by simp)).1]; exact BY.out.c0 1 rfl)
              have ch := fun d => below_cell (reach_below wr.heap.size wr d) (show wr.cell? ⟨w.heap.size + 1, 1, none⟩ = some (.bool false) by rw [← (V1.out (by simp)).2.1]; exact BY.out.c1 1 rfl)
              have cq := fun d => below_cell (reach_below wr.heap.size wr d) (show wr.cell? ⟨w4.heap.size + 1 + 1, 3, none⟩ = some (.int .i64 x1) from (cell_of_row _ _ 3 _ _ _ RQ8.out).trans rfl)
              have cc := fun d => below_cell (reach_below wr.heap.size wr d) (show wr.cell? ⟨w4.heap.size, 5, none⟩ = some (.int .i64 100000) by rw [← CAP.out]; exact RC8.out.cell 5 rfl)
              have gx : decide (100000 ≤ x1) = false := decide_eq_false (by have := (V1.out (by simp)).2.2; omega)
              refine wp_region_reach wr.heap.size (by kernel_rfl) (by kernel_rfl) ?_
              repeat (go_big_quiet_step (fail))
              refine wpQuiet_nil ?_
              rintro w' ⟨d, rfl⟩
              have H9 := Lib.hid (H8.out.trans ((reach_below wr.heap.size wr d).mono H8.out.size))
              have RQ9 := Lib.hid (show RowQ (reach wr.heap.size wr d) (w4.heap.size + 1 + 1) x0 x1 from ((reach_below wr.heap.size wr d).block _ (Array.getElem?_eq_some_iff.1 RQ8.out).1).trans RQ8.out)
              clear cu ch cq cc
              generalize reach wr.heap.size wr d = w9 at *
              go_wp2_with fail
              go_roundw
              case rel => exact ⟨2, by omega, by go_num, RQ9.out, H9.out⟩
              case measure => simp [intOf]
            · rw [show ((2 : Nat) : Int) = 2 from rfl]
              go_upto_region 23 with fail
              generalize hW : World.alloc (World.alloc wr _) _ = wz
              have T2 : Bx2 wr wz #[.bool true, .bool true] 22 #[.int .i64 0, .int .i64 5, .int .i64 0, .int .i64 5] 26 := by rw [← hW]; exact Bx2.new wr _ _ _ _
              have Hz := Lib.hid (H8.out.trans (T2.lo.mono H8.out.size))
              have TZ := Lib.hid T2
              have RZ := Lib.hid (R8.out.below Hz.out NE.out)
              clear hW T2 RC8 BY RQ8
              go_wp2_with (first
                | refine wpList_load_row_g (by kernel_rfl) 31 _ rfl w4.heap.size rfl 31 _ (0, 0) _ RZ.out Tryd.underlying31 rfl (by kernel_rfl) ?_
                | refine wpList_load_row_g (by kernel_rfl) 22 _ rfl (wr.heap.size) rfl 22 _ (0, 0) _ TZ.out.row1 Tryd.underlying22 rfl (by kernel_rfl) ?_
                | refine wpList_load_row_g (by kernel_rfl) 26 _ rfl (wr.heap.size + 1) rfl 26 _ (0, 0) _ TZ.out.row2 Tryd.underlying26 rfl (by kernel_rfl) ?_)
              refine (D1.out _ Hz.out).mono ?_
              rintro e u1 ⟨rfl, hb⟩
              have Y1 := Lib.hid (Hz.out.trans (hb.mono Hz.out.size))
              have T1 := Lib.hid (TZ.out.below hb)
              have R1 := Lib.hid (R8.out.below Y1.out NE.out)
              clear hb
              go_wp2_with (first
                | refine wpList_load_row_g (by kernel_rfl) 31 _ rfl w4.heap.size rfl 31 _ (0, 0) _ R1.out Tryd.underlying31 rfl (by kernel_rfl) ?_
                | refine wpList_load_row_g (by kernel_rfl) 22 _ rfl (wr.heap.size) rfl 22 _ (0, 0) _ T1.out.row1 Tryd.underlying22 rfl (by kernel_rfl) ?_
                | refine wpList_load_row_g (by kernel_rfl) 26 _ rfl (wr.heap.size + 1) rfl 26 _ (0, 0) _ T1.out.row2 Tryd.underlying26 rfl (by kernel_rfl) ?_)
              refine (D2.out _ Y1.out).mono ?_
              rintro e u2 ⟨rfl, hb⟩
              have Y2 := Lib.hid (Y1.out.trans (hb.mono Y1.out.size))
              have T2 := Lib.hid (T1.out.below hb)
              have R2 := Lib.hid (R8.out.below Y2.out NE.out)
              clear hb
              go_wp2_with (first
                | refine wpList_load_row_g (by kernel_rfl) 31 _ rfl w4.heap.size rfl 31 _ (0, 0) _ R2.out Tryd.underlying31 rfl (by kernel_rfl) ?_
                | refine wpList_load_row_g (by kernel_rfl) 22 _ rfl (wr.heap.size) rfl 22 _ (0, 0) _ T2.out.row1 Tryd.underlying22 rfl (by kernel_rfl) ?_
                | refine wpList_load_row_g (by kernel_rfl) 26 _ rfl (wr.heap.size + 1) rfl 26 _ (0, 0) _ T2.out.row2 Tryd.underlying26 rfl (by kernel_rfl) ?_)
              refine (D3.out _ Y2.out).mono ?_
              rintro e u3 ⟨rfl, hb⟩
              have Y3 := Lib.hid (Y2.out.trans (hb.mono Y2.out.size))
              have T3 := Lib.hid (T2.out.below hb)
              have R3 := Lib.hid (R8.out.below Y3.out NE.out)
              clear hb
              go_wp2_with (first
                | refine wpList_load_row_g (by kernel_rfl) 31 _ rfl w4.heap.size rfl 31 _ (0, 0) _ R3.out Tryd.underlying31 rfl (by kernel_rfl) ?_
                | refine wpList_load_row_g (by kernel_rfl) 22 _ rfl (wr.heap.size) rfl 22 _ (0, 0) _ T3.out.row1 Tryd.underlying22 rfl (by kernel_rfl) ?_
                | refine wpList_load_row_g (by kernel_rfl) 26 _ rfl (wr.heap.size + 1) rfl 26 _ (0, 0) _ T3.out.row2 Tryd.underlying26 rfl (by kernel_rfl) ?_)
              refine (D4.out _ Y3.out).mono ?_
              rintro e u4 ⟨rfl, hb⟩
              have Y4 := Lib.hid (Y3.out.trans (hb.mono Y3.out.size))
              clear hb
              go_wp2_with fail
              go_returns
              exact ⟨rfl, (BD.out.below Y4.out).lo⟩
      · cases o1
        · rw [M1]
          go_wp2_with fail
          go_loopw [16] (fun v wr => ∃ i : Nat, i ≤ 2 ∧ v = .int .i64 i ∧ RowQ wr (w4.heap.size + 1 + 1) x0 x1 ∧ Below W1.heap.size W1 wr) (fun v _ => 2 - (intOf v).toNat)
          case atStart => exact ⟨0, by omega, rfl, RQ7.out, H7.out⟩
          case round =>
            obtain ⟨i, hi, rfl, hq, hb⟩ := hrel
            have RQ8 := Lib.hid hq
            have H8 := Lib.hid hb
            have BY := Lib.hid (BD.out.below hb)
            have RC8 := Lib.hid (R8.out.below hb NE.out)
            clear hq hb
            rcases (show i = 0 ∨ i = 1 ∨ i = 2 by omega) with rfl | rfl | rfl
            · rw [show ((0 : Nat) : Int) = 0 from rfl]
              go_upto_region 19 with fail
              have cu := fun d => below_cell (reach_below wr.heap.size wr d) (show wr.cell? ⟨w.heap.size, 0, none⟩ = some (.bool true) by rw [← (V0.out (by simp)).1]; exact BY.out.c0 0 rfl)
              have ch := fun d => below_cell (reach_below wr.heap.size wr d) (show wr.cell? ⟨w.heap.size + 1, 0, none⟩ = some (.bool false) by rw [← (V0.out (by simp)).2.1]; exact BY.out.c1 0 rfl)
              have cq := fun d => below_cell (reach_below wr.heap.size wr d) (show wr.cell? ⟨w4.heap.size + 1 + 1, 1, none⟩ = some (.int .i64 x0) from (cell_of_row _ _ 1 _ _ _ RQ8.out).trans rfl)
              have cc := fun d => below_cell (reach_below wr.heap.size wr d) (show wr.cell? ⟨w4.heap.size, 5, none⟩ = some (.int .i64 100000) by rw [← CAP.out]; exact RC8.out.cell 5 rfl)
              have gx : decide (100000 ≤ x0) = false := decide_eq_false (by have := (V0.out (by simp)).2.2; omega)
              refine wp_region_reach wr.heap.size (by kernel_rfl) (by kernel_rfl) ?_
              repeat (go_big_quiet_step (fail))
              refine wpQuiet_nil ?_
              rintro w' ⟨d, rfl⟩
              have H9 := Lib.hid (H8.out.trans ((reach_below wr.heap.size wr d).mono H8.out.size))
              have RQ9 := Lib.hid (show RowQ (reach wr.heap.size wr d) (w4.heap.size + 1 + 1) x0 x1 from ((reach_below wr.heap.size wr d).block _ (Array.getElem?_eq_some_iff.1 RQ8.out).1).trans RQ8.out)
              clear cu ch cq cc
              generalize reach wr.heap.size wr d = w9 at *
              go_wp2_with fail
              go_roundw
              case rel => exact ⟨1, by omega, by go_num, RQ9.out, H9.out⟩
              case measure => simp [intOf]
            · rw [show ((1 : Nat) : Int) = 1 from rfl]
              go_upto_region 19 with fail
              refine wp_region_reach wr.heap.size (by kernel_rfl) (by kernel_rfl) ?_
              repeat (go_big_quiet_step (fail))
              refine wpQuiet_nil ?_
              rintro w' ⟨d, rfl⟩
              have H9 := Lib.hid (H8.out.trans ((reach_below wr.heap.size wr d).mono H8.out.size))
              have RQ9 := Lib.hid (show RowQ (reach wr.heap.size wr d) (w4.heap.size + 1 + 1) x0 x1 from ((reach_below wr.heap.size wr d).block _ (Array.getElem?_eq_some_iff.1 RQ8.out).1).trans RQ8.out)
              generalize reach wr.heap.size wr d = w9 at *
              go_wp2_with fail
              go_roundw
              case rel => exact ⟨2, by omega, by go_num, RQ9.out, H9.out⟩
              case measure => simp [intOf]
            · rw [show ((2 : Nat) : Int) = 2 from rfl]
              go_upto_region 23 with fail
              generalize hW : World.alloc (World.alloc wr _) _ = wz
              have T2 : Bx2 wr wz #[.bool true, .bool true] 22 #[.int .i64 0, .int .i64 5, .int .i64 0, .int .i64 5] 26 := by rw [← hW]; exact Bx2.new wr _ _ _ _
              have Hz := Lib.hid (H8.out.trans (T2.lo.mono H8.out.size))
              have TZ := Lib.hid T2
              have RZ := Lib.hid (R8.out.below Hz.out NE.out)
              clear hW T2 RC8 BY RQ8
              go_wp2_with (first
                | refine wpList_load_row_g (by kernel_rfl) 31 _ rfl w4.heap.size rfl 31 _ (0, 0) _ RZ.out Tryd.underlying31 rfl (by kernel_rfl) ?_
                | refine wpList_load_row_g (by kernel_rfl) 22 _ rfl (wr.heap.size) rfl 22 _ (0, 0) _ TZ.out.row1 Tryd.underlying22 rfl (by kernel_rfl) ?_
                | refine wpList_load_row_g (by kernel_rfl) 26 _ rfl (wr.heap.size + 1) rfl 26 _ (0, 0) _ TZ.out.row2 Tryd.underlying26 rfl (by kernel_rfl) ?_)
              refine (D1.out _ Hz.out).mono ?_
              rintro e u1 ⟨rfl, hb⟩
              have Y1 := Lib.hid (Hz.out.trans (hb.mono Hz.out.size))
              have T1 := Lib.hid (TZ.out.below hb)
              have R1 := Lib.hid (R8.out.below Y1.out NE.out)
              clear hb
              go_wp2_with (first
                | refine wpList_load_row_g (by kernel_rfl) 31 _ rfl w4.heap.size rfl 31 _ (0, 0) _ R1.out Tryd.underlying31 rfl (by kernel_rfl) ?_
                | refine wpList_load_row_g (by kernel_rfl) 22 _ rfl (wr.heap.size) rfl 22 _ (0, 0) _ T1.out.row1 Tryd.underlying22 rfl (by kernel_rfl) ?_
                | refine wpList_load_row_g (by kernel_rfl) 26 _ rfl (wr.heap.size + 1) rfl 26 _ (0, 0) _ T1.out.row2 Tryd.underlying26 rfl (by kernel_rfl) ?_)
              refine (D2.out _ Y1.out).mono ?_
              rintro e u2 ⟨rfl, hb⟩
              have Y2 := Lib.hid (Y1.out.trans (hb.mono Y1.out.size))
              have T2 := Lib.hid (T1.out.below hb)
              have R2 := Lib.hid (R8.out.below Y2.out NE.out)
              clear hb
              go_wp2_with (first
                | refine wpList_load_row_g (by kernel_rfl) 31 _ rfl w4.heap.size rfl 31 _ (0, 0) _ R2.out Tryd.underlying31 rfl (by kernel_rfl) ?_
                | refine wpList_load_row_g (by kernel_rfl) 22 _ rfl (wr.heap.size) rfl 22 _ (0, 0) _ T2.out.row1 Tryd.underlying22 rfl (by kernel_rfl) ?_
                | refine wpList_load_row_g (by kernel_rfl) 26 _ rfl (wr.heap.size + 1) rfl 26 _ (0, 0) _ T2.out.row2 Tryd.underlying26 rfl (by kernel_rfl) ?_)
              refine (D3.out _ Y2.out).mono ?_
              rintro e u3 ⟨rfl, hb⟩
              have Y3 := Lib.hid (Y2.out.trans (hb.mono Y2.out.size))
              have T3 := Lib.hid (T2.out.below hb)
              have R3 := Lib.hid (R8.out.below Y3.out NE.out)
              clear hb
              go_wp2_with (first
                | refine wpList_load_row_g (by kernel_rfl) 31 _ rfl w4.heap.size rfl 31 _ (0, 0) _ R3.out Tryd.underlying31 rfl (by kernel_rfl) ?_
                | refine wpList_load_row_g (by kernel_rfl) 22 _ rfl (wr.heap.size) rfl 22 _ (0, 0) _ T3.out.row1 Tryd.underlying22 rfl (by kernel_rfl) ?_
                | refine wpList_load_row_g (by kernel_rfl) 26 _ rfl (wr.heap.size + 1) rfl 26 _ (0, 0) _ T3.out.row2 Tryd.underlying26 rfl (by kernel_rfl) ?_)
              refine (D4.out _ Y3.out).mono ?_
              rintro e u4 ⟨rfl, hb⟩
              have Y4 := Lib.hid (Y3.out.trans (hb.mono Y3.out.size))
              clear hb
              go_wp2_with fail
              go_returns
              exact ⟨rfl, (BD.out.below Y4.out).lo⟩
        · rw [M3]
          go_wp2_with fail
          go_loopw [16] (fun v wr => ∃ i : Nat, i ≤ 2 ∧ v = .int .i64 i ∧ RowQ wr (w4.heap.size + 1 + 1) x0 x1 ∧ Below W1.heap.size W1 wr) (fun v _ => 2 - (intOf v).toNat)
          case atStart => exact ⟨0, by omega, rfl, RQ7.out, H7.out⟩
          case round =>
            obtain ⟨i, hi, rfl, hq, hb⟩ := hrel
            have RQ8 := Lib.hid hq
            have H8 := Lib.hid hb
            have BY := Lib.hid (BD.out.below hb)
            have RC8 := Lib.hid (R8.out.below hb NE.out)
            clear hq hb
            rcases (show i = 0 ∨ i = 1 ∨ i = 2 by omega) with rfl | rfl | rfl
            · rw [show ((0 : Nat) : Int) = 0 from rfl]
              go_upto_region 19 with fail
              have cu := fun d => below_cell (reach_below wr.heap.size wr d) (show wr.cell? ⟨w.heap.size, 0, none⟩ = some (.bool true) by rw [← (V0.out (by simp)).1]; exact BY.out.c0 0 rfl)
              have ch := fun d => below_cell (reach_below wr.heap.size wr d) (show wr.cell? ⟨w.heap.size + 1, 0, none⟩ = some (.bool false) by rw [← (V0.out (by simp)).2.1]; exact BY.out.c1 0 rfl)
              have cq := fun d => below_cell (reach_below wr.heap.size wr d) (show wr.cell? ⟨w4.heap.size + 1 + 1, 1, none⟩ = some (.int .i64 x0) from (cell_of_row _ _ 1 _ _ _ RQ8.out).trans rfl)
              have cc := fun d => below_cell (reach_below wr.heap.size wr d) (show wr.cell? ⟨w4.heap.size, 5, none⟩ = some (.int .i64 100000) by rw [← CAP.out]; exact RC8.out.cell 5 rfl)
              have gx : decide (100000 ≤ x0) = false := decide_eq_false (by have := (V0.out (by simp)).2.2; omega)
              refine wp_region_reach wr.heap.size (by kernel_rfl) (by kernel_rfl) ?_
              repeat (go_big_quiet_step (fail))
              refine wpQuiet_nil ?_
              rintro w' ⟨d, rfl⟩
              have H9 := Lib.hid (H8.out.trans ((reach_below wr.heap.size wr d).mono H8.out.size))
              have RQ9 := Lib.hid (show RowQ (reach wr.heap.size wr d) (w4.heap.size + 1 + 1) x0 x1 from ((reach_below wr.heap.size wr d).block _ (Array.getElem?_eq_some_iff.1 RQ8.out).1).trans RQ8.out)
              clear cu ch cq cc
              generalize reach wr.heap.size wr d = w9 at *
              go_wp2_with fail
              go_roundw
              case rel => exact ⟨1, by omega, by go_num, RQ9.out, H9.out⟩
              case measure => simp [intOf]
            · rw [show ((1 : Nat) : Int) = 1 from rfl]
              go_upto_region 19 with fail
              have cu := fun d => below_cell (reach_below wr.heap.size wr d) (show wr.cell? ⟨w.heap.size, 1, none⟩ = some (.bool true) by rw [← (V1.out (by simp)).1]; exact BY.out.c0 1 rfl)
              have ch := fun d => below_cell (reach_below wr.heap.size wr d) (show wr.cell? ⟨w.heap.size + 1, 1, none⟩ = some (.bool false) by rw [← (V1.out (by simp)).2.1]; exact BY.out.c1 1 rfl)
              have cq := fun d => below_cell (reach_below wr.heap.size wr d) (show wr.cell? ⟨w4.heap.size + 1 + 1, 3, none⟩ = some (.int .i64 x1) from (cell_of_row _ _ 3 _ _ _ RQ8.out).trans rfl)
              have cc := fun d => below_cell (reach_below wr.heap.size wr d) (show wr.cell? ⟨w4.heap.size, 5, none⟩ = some (.int .i64 100000) by rw [← CAP.out]; exact RC8.out.cell 5 rfl)
              have gx : decide (100000 ≤ x1) = false := decide_eq_false (by have := (V1.out (by simp)).2.2; omega)
              refine wp_region_reach wr.heap.size (by kernel_rfl) (by kernel_rfl) ?_
              repeat (go_big_quiet_step (fail))
              refine wpQuiet_nil ?_
              rintro w' ⟨d, rfl⟩
              have H9 := Lib.hid (H8.out.trans ((reach_below wr.heap.size wr d).mono H8.out.size))
              have RQ9 := Lib.hid (show RowQ (reach wr.heap.size wr d) (w4.heap.size + 1 + 1) x0 x1 from ((reach_below wr.heap.size wr d).block _ (Array.getElem?_eq_some_iff.1 RQ8.out).1).trans RQ8.out)
              clear cu ch cq cc
              generalize reach wr.heap.size wr d = w9 at *
              go_wp2_with fail
              go_roundw
              case rel => exact ⟨2, by omega, by go_num, RQ9.out, H9.out⟩
              case measure => simp [intOf]
            · rw [show ((2 : Nat) : Int) = 2 from rfl]
              go_upto_region 23 with fail
              generalize hW : World.alloc (World.alloc wr _) _ = wz
              have T2 : Bx2 wr wz #[.bool true, .bool true] 22 #[.int .i64 0, .int .i64 5, .int .i64 0, .int .i64 5] 26 := by rw [← hW]; exact Bx2.new wr _ _ _ _
              have Hz := Lib.hid (H8.out.trans (T2.lo.mono H8.out.size))
              have TZ := Lib.hid T2
              have RZ := Lib.hid (R8.out.below Hz.out NE.out)
              clear hW T2 RC8 BY RQ8
              go_wp2_with (first
                | refine wpList_load_row_g (by kernel_rfl) 31 _ rfl w4.heap.size rfl 31 _ (0, 0) _ RZ.out Tryd.underlying31 rfl (by kernel_rfl) ?_
                | refine wpList_load_row_g (by kernel_rfl) 22 _ rfl (wr.heap.size) rfl 22 _ (0, 0) _ TZ.out.row1 Tryd.underlying22 rfl (by kernel_rfl) ?_
                | refine wpList_load_row_g (by kernel_rfl) 26 _ rfl (wr.heap.size + 1) rfl 26 _ (0, 0) _ TZ.out.row2 Tryd.underlying26 rfl (by kernel_rfl) ?_)
              refine (D1.out _ Hz.out).mono ?_
              rintro e u1 ⟨rfl, hb⟩
              have Y1 := Lib.hid (Hz.out.trans (hb.mono Hz.out.size))
              have T1 := Lib.hid (TZ.out.below hb)
              have R1 := Lib.hid (R8.out.below Y1.out NE.out)
              clear hb
              go_wp2_with (first
                | refine wpList_load_row_g (by kernel_rfl) 31 _ rfl w4.heap.size rfl 31 _ (0, 0) _ R1.out Tryd.underlying31 rfl (by kernel_rfl) ?_
                | refine wpList_load_row_g (by kernel_rfl) 22 _ rfl (wr.heap.size) rfl 22 _ (0, 0) _ T1.out.row1 Tryd.underlying22 rfl (by kernel_rfl) ?_
                | refine wpList_load_row_g (by kernel_rfl) 26 _ rfl (wr.heap.size + 1) rfl 26 _ (0, 0) _ T1.out.row2 Tryd.underlying26 rfl (by kernel_rfl) ?_)
              refine (D2.out _ Y1.out).mono ?_
              rintro e u2 ⟨rfl, hb⟩
              have Y2 := Lib.hid (Y1.out.trans (hb.mono Y1.out.size))
              have T2 := Lib.hid (T1.out.below hb)
              have R2 := Lib.hid (R8.out.below Y2.out NE.out)
              clear hb
              go_wp2_with (first
                | refine wpList_load_row_g (by kernel_rfl) 31 _ rfl w4.heap.size rfl 31 _ (0, 0) _ R2.out Tryd.underlying31 rfl (by kernel_rfl) ?_
                | refine wpList_load_row_g (by kernel_rfl) 22 _ rfl (wr.heap.size) rfl 22 _ (0, 0) _ T2.out.row1 Tryd.underlying22 rfl (by kernel_rfl) ?_
                | refine wpList_load_row_g (by kernel_rfl) 26 _ rfl (wr.heap.size + 1) rfl 26 _ (0, 0) _ T2.out.row2 Tryd.underlying26 rfl (by kernel_rfl) ?_)
              refine (D3.out _ Y2.out).mono ?_
              rintro e u3 ⟨rfl, hb⟩
              have Y3 := Lib.hid (Y2.out.trans (hb.mono Y2.out.size))
              have T3 := Lib.hid (T2.out.below hb)
              have R3 := Lib.hid (R8.out.below Y3.out NE.out)
              clear hb
              go_wp2_with (first
                | refine wpList_load_row_g (by kernel_rfl) 31 _ rfl w4.heap.size rfl 31 _ (0, 0) _ R3.out Tryd.underlying31 rfl (by kernel_rfl) ?_
                | refine wpList_load_row_g (by kernel_rfl) 22 _ rfl (wr.heap.size) rfl 22 _ (0, 0) _ T3.out.row1 Tryd.underlying22 rfl (by kernel_rfl) ?_
                | refine wpList_load_row_g (by kernel_rfl) 26 _ rfl (wr.heap.size + 1) rfl 26 _ (0, 0) _ T3.out.row2 Tryd.underlying26 rfl (by kernel_rfl) ?_)
              refine (D4.out _ Y3.out).mono ?_
              rintro e u4 ⟨rfl, hb⟩
              have Y4 := Lib.hid (Y3.out.trans (hb.mono Y3.out.size))
              clear hb
              go_wp2_with fail
              go_returns
              exact ⟨rfl, (BD.out.below Y4.out).lo⟩
end Go.Proofs.YtbeemfkndpandaaDoor
