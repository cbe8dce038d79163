/- Where volts say nothing. Conditions: the configuration's least volts are 10000. -/
import Derived.Test.YtakdoagigbjngaaDoorSagC
namespace Go.Proofs.YtakdoagigbjngaaDoor
open Go.RowKit
set_option linter.unusedVariables false
set_option maxHeartbeats 4000000 in
theorem sagChargeNo (A : Array Value) (v amp : Int) (fv fa : Bool) (g9 : A[9]? = some (.int .i64 10000)) (hno : (fv && fa && decide (10000 ≤ v)) = false) (w : World) :
    Calls Tryd.prog 13 #[.agg A, .agg #[.int .i64 v, .bool fv], .agg #[.int .i64 amp, .bool fa]] w fun e2 w' => e2 = .returned (.tuple #[.agg #[.int .i64 0, .int .i64 0], .bool false]) ∧ Below w.heap.size w w' := by
  have HN := Lib.hid hno
  clear hno
  go_enter Tryd.func13, Tryd.ntmps13
  go_upto_region 1 with fail
  have B0 := Lib.hid (Bx4.new w A 28 #[.int .i64 v, .bool fv] 23 #[.int .i64 amp, .bool fa] 23 #[.int .i64 0, .int .i64 0] 31)
  generalize World.alloc (World.alloc (World.alloc (World.alloc w _) _) _) _ = W0 at *
  have a9 := B0.out.c0 9 g9
  have v0 : W0.cell? ⟨w.heap.size + 1, 0, none⟩ = some (.int .i64 v) := B0.out.c1 0 rfl
  have v1 : W0.cell? ⟨w.heap.size + 1, 1, none⟩ = some (.bool fv) := B0.out.c1 1 rfl
  have u1 : W0.cell? ⟨w.heap.size + 1 + 1, 1, none⟩ = some (.bool fa) := B0.out.c2 1 rfl
  have x0 : W0.cell? ⟨w.heap.size + 1 + 1 + 1, 0, none⟩ = some (.int .i64 0) := B0.out.c3 0 rfl
  have x1 : W0.cell? ⟨w.heap.size + 1 + 1 + 1, 1, none⟩ = some (.int .i64 0) := B0.out.c3 1 rfl
  have xf := B0.out.froz
  cases fv
  · go_wp2_with fail
    have B6 := Lib.hid ((B0.out.set 0 (.int .i64 0)).set 1 (.int .i64 0))
    clear x0 x1 xf
    generalize World.setCell _ _ _ = W3 at *
    have q0 : W3.cell? ⟨w.heap.size + 1 + 1 + 1, 0, none⟩ = some (.int .i64 0) := B6.out.c3 0 rfl
    have q1 : W3.cell? ⟨w.heap.size + 1 + 1 + 1, 1, none⟩ = some (.int .i64 0) := B6.out.c3 1 rfl
    refine bodyPost_ret (v := .tuple #[.agg #[.int .i64 0, .int .i64 0], .bool false]) (by simp [results, Tryd.results13, go_sem, q0, q1]) rfl ⟨rfl, B6.out.lo⟩
  · cases fa
    · go_wp2_with fail
      have B6 := Lib.hid ((B0.out.set 0 (.int .i64 0)).set 1 (.int .i64 0))
      clear x0 x1 xf
      generalize World.setCell _ _ _ = W3 at *
      have q0 : W3.cell? ⟨w.heap.size + 1 + 1 + 1, 0, none⟩ = some (.int .i64 0) := B6.out.c3 0 rfl
      have q1 : W3.cell? ⟨w.heap.size + 1 + 1 + 1, 1, none⟩ = some (.int .i64 0) := B6.out.c3 1 rfl
      refine bodyPost_ret (v := .tuple #[.agg #[.int .i64 0, .int .i64 0], .bool false]) (by simp [results, Tryd.results13, go_sem, q0, q1]) rfl ⟨rfl, B6.out.lo⟩
    · have hv : v < 10000 := by
        have := HN.out
        simp at this
        omega
      have g9b : decide (v < 10000) = true := decide_eq_true hv
      go_wp2_with fail
      have B6 := Lib.hid ((B0.out.set 0 (.int .i64 0)).set 1 (.int .i64 0))
      clear x0 x1 xf
      generalize World.setCell _ _ _ = W3 at *
      have q0 : W3.cell? ⟨w.heap.size + 1 + 1 + 1, 0, none⟩ = some (.int .i64 0) := B6.out.c3 0 rfl
      have q1 : W3.cell? ⟨w.heap.size + 1 + 1 + 1, 1, none⟩ = some (.int .i64 0) := B6.out.c3 1 rfl
      refine bodyPost_ret (v := .tuple #[.agg #[.int .i64 0, .int .i64 0], .bool false]) (by simp [results, Tryd.results13, go_sem, q0, q1]) rfl ⟨rfl, B6.out.lo⟩
set_option maxHeartbeats 4000000 in
theorem saggedNo (A : Array Value) (v amp : Int) (fv fa : Bool) (g9 : A[9]? = some (.int .i64 10000)) (hno : (fv && fa && decide (10000 ≤ v)) = false) (w : World) :
    Calls Tryd.prog 14 #[.agg A, .agg #[.int .i64 v, .bool fv], .agg #[.int .i64 amp, .bool fa]] w fun e2 w' => e2 = .returned (.tuple #[.agg #[.int .i64 0, .int .i64 0], .bool false]) ∧ Below w.heap.size w w' := by
  have HN := Lib.hid hno
  clear hno
  go_enter Tryd.func14, Tryd.ntmps14
  go_upto_region 1 with fail
  have B0 := Lib.hid (Bx4.new w A 28 #[.int .i64 v, .bool fv] 23 #[.int .i64 amp, .bool fa] 23 #[.int .i64 0, .int .i64 0] 31)
  generalize World.alloc (World.alloc (World.alloc (World.alloc w _) _) _) _ = W0 at *
  have a9 := B0.out.c0 9 g9
  have v0 : W0.cell? ⟨w.heap.size + 1, 0, none⟩ = some (.int .i64 v) := B0.out.c1 0 rfl
  have v1 : W0.cell? ⟨w.heap.size + 1, 1, none⟩ = some (.bool fv) := B0.out.c1 1 rfl
  have u1 : W0.cell? ⟨w.heap.size + 1 + 1, 1, none⟩ = some (.bool fa) := B0.out.c2 1 rfl
  have x0 : W0.cell? ⟨w.heap.size + 1 + 1 + 1, 0, none⟩ = some (.int .i64 0) := B0.out.c3 0 rfl
  have x1 : W0.cell? ⟨w.heap.size + 1 + 1 + 1, 1, none⟩ = some (.int .i64 0) := B0.out.c3 1 rfl
  have xf := B0.out.froz
  cases fv
  · go_wp2_with fail
    have B6 := Lib.hid ((B0.out.set 0 (.int .i64 0)).set 1 (.int .i64 0))
    clear x0 x1 xf
    generalize World.setCell _ _ _ = W3 at *
    have q0 : W3.cell? ⟨w.heap.size + 1 + 1 + 1, 0, none⟩ = some (.int .i64 0) := B6.out.c3 0 rfl
    have q1 : W3.cell? ⟨w.heap.size + 1 + 1 + 1, 1, none⟩ = some (.int .i64 0) := B6.out.c3 1 rfl
    refine bodyPost_ret (v := .tuple #[.agg #[.int .i64 0, .int .i64 0], .bool false]) (by simp [results, Tryd.results14, go_sem, q0, q1]) rfl ⟨rfl, B6.out.lo⟩
  · cases fa
    · go_wp2_with fail
      have B6 := Lib.hid ((B0.out.set 0 (.int .i64 0)).set 1 (.int .i64 0))
      clear x0 x1 xf
      generalize World.setCell _ _ _ = W3 at *
      have q0 : W3.cell? ⟨w.heap.size + 1 + 1 + 1, 0, none⟩ = some (.int .i64 0) := B6.out.c3 0 rfl
      have q1 : W3.cell? ⟨w.heap.size + 1 + 1 + 1, 1, none⟩ = some (.int .i64 0) := B6.out.c3 1 rfl
      refine bodyPost_ret (v := .tuple #[.agg #[.int .i64 0, .int .i64 0], .bool false]) (by simp [results, Tryd.results14, go_sem, q0, q1]) rfl ⟨rfl, B6.out.lo⟩
    · have hv : v < 10000 := by
        have := HN.out
        simp at this
        omega
      have g9b : decide (v < 10000) = true := decide_eq_true hv
      go_wp2_with fail
      have B6 := Lib.hid ((B0.out.set 0 (.int .i64 0)).set 1 (.int .i64 0))
      clear x0 x1 xf
      generalize World.setCell _ _ _ = W3 at *
      have q0 : W3.cell? ⟨w.heap.size + 1 + 1 + 1, 0, none⟩ = some (.int .i64 0) := B6.out.c3 0 rfl
      have q1 : W3.cell? ⟨w.heap.size + 1 + 1 + 1, 1, none⟩ = some (.int .i64 0) := B6.out.c3 1 rfl
      refine bodyPost_ret (v := .tuple #[.agg #[.int .i64 0, .int .i64 0], .bool false]) (by simp [results, Tryd.results14, go_sem, q0, q1]) rfl ⟨rfl, B6.out.lo⟩
end Go.Proofs.YtakdoagigbjngaaDoor
