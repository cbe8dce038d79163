/- What the document's own answers on a right table are. Conditions: the table is right. -/
import Derived.Test.YtppomdpppidbaaaDoorTabC
import Derived.Test.YtppomdpppidbaaaDoorBox
namespace Go.Proofs.YtppomdpppidbaaaDoor
open Go.RowKit
set_option linter.unusedVariables false
theorem fault_f0 (a : Int) (p : Bool) (b : Int) (w : World) : (Instr.field 38 (.agg #[.int .i64 a, .bool p, .int .i64 b]) 0).run Tryd.prog w = .ok (.int .i64 a) w := by kernel_rfl
set_option maxHeartbeats 4000000 in
theorem noneC (w : World) : Calls Tryd.prog 29 #[] w fun e w' => e = .returned (.agg #[.int .i64 0, .bool false, .int .i64 0]) ∧ Below w.heap.size w w' := by
  go_enter Tryd.func29, Tryd.ntmps29
  go_wp2_with fail
  refine bodyPost_ret (v := .agg #[.int .i64 0, .bool false, .int .i64 0]) (by simp [results, Tryd.results29, go_sem]) rfl ⟨rfl, ?_⟩
  go_grown
set_option maxHeartbeats 4000000 in
theorem refCheckC (a : Addr) (n cap : Nat) (x y : Nat → Int) (T : TabOk n x y) (w : World) (h : Pts w a n x y) :
    Calls Tryd.prog 14 #[.slice (some a) n cap] w fun e w' => e = .returned (.agg #[.int .i64 0, .bool false, .int .i64 0]) ∧ Below w.heap.size w w' := by
  have T1 := Lib.hid T
  have H := Lib.hid h
  have n2 := T.n2
  have n3 := T.n3
  clear h T
  go_enter Tryd.func14, Tryd.ntmps14
  go_wp2_with fail
  have B0 := Lib.hid (Bx.new w #[.int .i64 0, .bool false, .int .i64 0] 38)
  generalize World.alloc w _ = W0 at *
  go_loopw [3] (fun v wr => ∃ i : Nat, i ≤ n ∧ v = .int .i64 i ∧ Bx w wr #[.int .i64 0, .bool false, .int .i64 0] 38) (fun v _ => n - (intOf v).toNat)
  case atStart => exact ⟨0, by omega, rfl, B0.out⟩
  case round =>
    obtain ⟨i, hi, rfl, hb⟩ := hrel
    have HB := Lib.hid hb
    clear hb
    by_cases hl : i < n
    · have P := Lib.hid (H.out.below HB.out.lo)
      obtain ⟨c0, c1⟩ := P.out i hl
      obtain ⟨b1, b2⟩ := T1.out.bx i hl
      obtain ⟨b3, b4⟩ := T1.out.by' i hl
      have e1 : decide (x i < -1073741824) = false := decide_eq_false (by omega)
      have e2 : decide (1073741824 < x i) = false := decide_eq_false (by omega)
      have e3 : decide (y i < -1073741824) = false := decide_eq_false (by omega)
      have e4 : decide (1073741824 < y i) = false := decide_eq_false (by omega)
      clear b1 b2 b3 b4
      rcases (show i = 0 ∨ ∃ k, i = k + 1 by cases i; exact .inl rfl; exact .inr ⟨_, rfl⟩) with h0 | ⟨k, hk⟩
      · subst h0
        rw [Nat.zero_mul, add_0] at c0 c1
        have r0 := fun d => below_cell (reach_below wr.heap.size wr d) c0
        have r1 := fun d => below_cell (reach_below wr.heap.size wr d) c1
        go_upto_region 10 with fail
        refine wp_region_reach wr.heap.size (by kernel_rfl) (by kernel_rfl) ?_
        repeat (go_big_quiet_step (fail))
        refine wpQuiet_nil ?_
        rintro w' ⟨d, rfl⟩
        go_wp2_with fail
        go_roundw
        case rel => exact ⟨1, by omega, by go_num, HB.out.reach d⟩
        case measure => simp [intOf]; omega
      · subst hk
        obtain ⟨d0, d1⟩ := P.out k (by omega)
        have m1 := T1.out.mx k hl
        have m2 := T1.out.my k hl
        have g1 : decide (x (k + 1) ≤ x k) = false := decide_eq_false (by omega)
        have g2 : decide (y (k + 1) < y k) = false := decide_eq_false (by omega)
        have i11 : IntKind.i64.wrap ((k : Int) + 1 - 1) = (k : Int) := by rw [show (k : Int) + 1 - 1 = k by omega]; exact IntWalk.i64_in _ (by omega)
        have i1 : (k : Int) + 1 < (n : Int) := by omega
        have i2 : (k : Int) < (n : Int) := by omega
        have r0 := fun d => below_cell (reach_below wr.heap.size wr d) c0
        have r1 := fun d => below_cell (reach_below wr.heap.size wr d) c1
        have s0 := fun d => below_cell (reach_below wr.heap.size wr d) d0
        have s1 := fun d => below_cell (reach_below wr.heap.size wr d) d1
        go_upto_region 10 with fail
        refine wp_region_reach wr.heap.size (by kernel_rfl) (by kernel_rfl) ?_
        repeat (go_big_quiet_step (fail))
        refine wpQuiet_nil ?_
        rintro w' ⟨d, rfl⟩
        go_wp2_with fail
        go_roundw
        case rel => exact ⟨k + 2, by omega, by go_num, HB.out.reach d⟩
        case measure => simp [intOf]; omega
    · go_wp2_with fail
      refine (noneC _).mono ?_
      rintro e w2 ⟨rfl, hb2⟩
      have HB2 := Lib.hid (HB.out.below hb2)
      clear hb2
      have x0 := HB2.out.cell 0 rfl
      have x1 := HB2.out.cell 1 rfl
      have x2 := HB2.out.cell 2 rfl
      have xf := HB2.out.froz
      go_wp2_with fail
      have HB3 := Lib.hid (((HB2.out.set 0 (.int .i64 0)).set 1 (.bool false)).set 2 (.int .i64 0))
      clear x0 x1 x2 xf
      generalize World.setCell _ _ _ = W3 at *
      have q0 := HB3.out.cell 0 rfl
      have q1 := HB3.out.cell 1 rfl
      have q2 := HB3.out.cell 2 rfl
      refine bodyPost_ret (v := .agg #[.int .i64 0, .bool false, .int .i64 0]) (by simp [results, Tryd.results14, go_sem, q0, q1, q2]) rfl ⟨rfl, HB3.out.lo⟩
end Go.Proofs.YtppomdpppidbaaaDoor
