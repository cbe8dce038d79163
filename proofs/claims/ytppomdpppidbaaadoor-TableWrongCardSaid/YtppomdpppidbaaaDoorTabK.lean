/- What the two closures of table.Back answer. Conditions: the table is right. -/
import Derived.Test.YtppomdpppidbaaaDoorTabB
import Derived.Test.YtppomdpppidbaaaDoorTabM
namespace Go.Proofs.YtppomdpppidbaaaDoor
open Go.RowKit
set_option linter.unusedVariables false
theorem span_f0 (a b : Int) (w : World) : (Instr.field 27 (.agg #[.int .i64 a, .int .i64 b]) 0).run Tryd.prog w = .ok (.int .i64 a) w := by kernel_rfl
theorem span_f1 (a b : Int) (w : World) : (Instr.field 27 (.agg #[.int .i64 a, .int .i64 b]) 1).run Tryd.prog w = .ok (.int .i64 b) w := by kernel_rfl
set_option maxHeartbeats 4000000 in
theorem closC1 (a : Addr) (n cap : Nat) (x y : Nat → Int) (v c : Int) (T : TabOk n x y) (w wx : World) (hb : TB w wx a n cap v) (h : Pts wx a n x y) :
    Calls Tryd.prog 22 #[.int .i64 c, .pointer (some ⟨w.heap.size, 0, none⟩), .pointer (some ⟨w.heap.size + 1, 0, none⟩)] wx fun e w' => e = .returned (.bool (decide (v ≤ atHi n x y c))) ∧ Below wx.heap.size wx w' := by
  have P := Lib.hid h
  have T1 := Lib.hid T
  have hB : wx.heap.size ≤ wx.heap.size := Nat.le_refl _
  have K := Lib.hid fun d => atC a n cap x y c T1.out (reach wx.heap.size wx d) (P.out.below (reach_below wx.heap.size wx d))
  have f0 := span_f0 (atLo n x y c) (atHi n x y c)
  have f1 := span_f1 (atLo n x y c) (atHi n x y c)
  have t0 : wx.cell? ⟨w.heap.size, 0, none⟩ = some (.slice (some a) n cap) := cell_of_row _ _ 0 _ _ _ hb.t
  have y0 : wx.cell? ⟨w.heap.size + 1, 0, none⟩ = some (.int .i64 v) := cell_of_row _ _ 0 _ _ _ hb.y
  have rt := fun d => below_cell (reach_below wx.heap.size wx d) t0
  have ry := fun d => below_cell (reach_below wx.heap.size wx d) y0
  clear h T hb t0 y0
  go_enter Tryd.func22, Tryd.ntmps22
  go_upto_region 1 with fail
  refine wp_region_reach wx.heap.size (by kernel_rfl) (by kernel_rfl) ?_
  repeat (go_big_quiet_step ((go_at_call 23; with_reducible exact reach_call hB (K.out _))))
  refine wpQuiet_nil ?_
  rintro w' ⟨d, rfl⟩
  go_wp2_with fail
  go_returns
  exact ⟨rfl, reach_below _ _ _⟩
set_option maxHeartbeats 4000000 in
theorem closC2 (a : Addr) (n cap : Nat) (x y : Nat → Int) (v c : Int) (T : TabOk n x y) (w wx : World) (hb : TB w wx a n cap v) (h : Pts wx a n x y) :
    Calls Tryd.prog 24 #[.int .i64 c, .pointer (some ⟨w.heap.size, 0, none⟩), .pointer (some ⟨w.heap.size + 1, 0, none⟩)] wx fun e w' => e = .returned (.bool (decide (v < atLo n x y c))) ∧ Below wx.heap.size wx w' := by
  have P := Lib.hid h
  have T1 := Lib.hid T
  have hB : wx.heap.size ≤ wx.heap.size := Nat.le_refl _
  have K := Lib.hid fun d => atC a n cap x y c T1.out (reach wx.heap.size wx d) (P.out.below (reach_below wx.heap.size wx d))
  have f0 := span_f0 (atLo n x y c) (atHi n x y c)
  have f1 := span_f1 (atLo n x y c) (atHi n x y c)
  have t0 : wx.cell? ⟨w.heap.size, 0, none⟩ = some (.slice (some a) n cap) := cell_of_row _ _ 0 _ _ _ hb.t
  have y0 : wx.cell? ⟨w.heap.size + 1, 0, none⟩ = some (.int .i64 v) := cell_of_row _ _ 0 _ _ _ hb.y
  have rt := fun d => below_cell (reach_below wx.heap.size wx d) t0
  have ry := fun d => below_cell (reach_below wx.heap.size wx d) y0
  clear h T hb t0 y0
  go_enter Tryd.func24, Tryd.ntmps24
  go_upto_region 1 with fail
  refine wp_region_reach wx.heap.size (by kernel_rfl) (by kernel_rfl) ?_
  repeat (go_big_quiet_step ((go_at_call 23; with_reducible exact reach_call hB (K.out _))))
  refine wpQuiet_nil ?_
  rintro w' ⟨d, rfl⟩
  go_wp2_with fail
  go_returns
  exact ⟨rfl, reach_below _ _ _⟩
end Go.Proofs.YtppomdpppidbaaaDoor
