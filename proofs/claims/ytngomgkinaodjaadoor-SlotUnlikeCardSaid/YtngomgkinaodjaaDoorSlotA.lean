/- A record that may be, and its bytes. Conditions: it may be. -/
import Derived.Test.YtngomgkinaodjaaDoorNumS
namespace Go.Proofs.YtngomgkinaodjaaDoor
open Go Go.RowKit
set_option linter.unusedVariables false
set_option maxRecDepth 20000
theorem chargeG (a b : Int) (h1 : 0 ≤ a) (h2 : a ≤ b) (h3 : b ≤ 1073741824) (w : World) : Calls Tryd.prog 38 #[.agg #[.int .i64 a, .int .i64 b]] w fun e w' => e = .returned (.bool true) ∧ Below w.heap.size w w' := by
  have g1 : decide (0 ≤ a) = true := decide_eq_true h1
  have g2 : decide (a ≤ b) = true := decide_eq_true h2
  have g3 : decide (b ≤ 1073741824) = true := decide_eq_true h3
  clear h1 h2 h3
  go_enter Tryd.func38, Tryd.ntmps38
  go_upto_region 1 with fail
  have B0 := Lib.hid (Bx.new w #[.int .i64 a, .int .i64 b] 49)
  generalize World.alloc w _ = W at *
  have x0 : W.cell? ⟨w.heap.size, 0, none⟩ = some (.int .i64 a) := B0.out.cell 0 rfl
  have x1 : W.cell? ⟨w.heap.size, 1, none⟩ = some (.int .i64 b) := B0.out.cell 1 rfl
  go_wp2_with fail
  go_returns
  exact ⟨rfl, B0.out.lo⟩
/-- A record that may be. -/
structure RecOk (seq mode locks a b c d : Int) : Prop where
  s : 0 ≤ seq ∧ seq < 4294967296
  m : 1 ≤ mode ∧ mode ≤ 5
  l : 0 ≤ locks ∧ locks < 2097152
  q : 0 ≤ a ∧ a ≤ b ∧ b ≤ 1073741824
  r : 0 ≤ c ∧ c ≤ d ∧ d ≤ 1073741824
set_option maxHeartbeats 8000000 in
theorem checkS {seq mode locks a b c d : Int} (h : RecOk seq mode locks a b c d) (w : World) : Calls Tryd.prog 25 #[.agg #[.int .u32 seq, .int .i64 mode, .int .u32 locks, .int .i64 a, .int .i64 b, .int .i64 c, .int .i64 d]] w fun e w' => e = .returned .nilIface ∧ Below w.heap.size w w' := by
  have K1 := Lib.hid fun (u : World) => chargeG a b h.q.1 h.q.2.1 h.q.2.2 u
  have K2 := Lib.hid fun (u : World) => chargeG c d h.r.1 h.r.2.1 h.r.2.2 u
  have g1 : decide (mode < 1) = false := decide_eq_false (by have := h.m; omega)
  have g2 : decide (5 < mode) = false := decide_eq_false (by have := h.m; omega)
  have g3 : decide (2097152 ≤ locks) = false := decide_eq_false (by have := h.l; omega)
  clear h
  go_enter Tryd.func25, Tryd.ntmps25
  go_upto_region 1 with fail
  have B0 := Lib.hid (Bx.new w #[.int .u32 seq, .int .i64 mode, .int .u32 locks, .int .i64 a, .int .i64 b, .int .i64 c, .int .i64 d] 51)
  generalize World.alloc w _ = W at *
  have x0 : W.cell? ⟨w.heap.size, 0, none⟩ = some (.int .u32 seq) := B0.out.cell 0 rfl
  have x1 : W.cell? ⟨w.heap.size, 1, none⟩ = some (.int .i64 mode) := B0.out.cell 1 rfl
  have x2 : W.cell? ⟨w.heap.size, 2, none⟩ = some (.int .u32 locks) := B0.out.cell 2 rfl
  have x3 : W.cell? ⟨w.heap.size, 3, none⟩ = some (.int .i64 a) := B0.out.cell 3 rfl
  have x4 : W.cell? ⟨w.heap.size, 4, none⟩ = some (.int .i64 b) := B0.out.cell 4 rfl
  have x5 : W.cell? ⟨w.heap.size, 5, none⟩ = some (.int .i64 c) := B0.out.cell 5 rfl
  have x6 : W.cell? ⟨w.heap.size, 6, none⟩ = some (.int .i64 d) := B0.out.cell 6 rfl
  go_wp2_with fail
  refine (K1.out _).mono ?_
  rintro e w1 ⟨rfl, hb⟩
  have B1 := Lib.hid (B0.out.below hb)
  clear hb B0 x0 x1 x2 x3 x4 x5 x6
  have x0 : w1.cell? ⟨w.heap.size, 0, none⟩ = some (.int .u32 seq) := B1.out.cell 0 rfl
  have x1 : w1.cell? ⟨w.heap.size, 1, none⟩ = some (.int .i64 mode) := B1.out.cell 1 rfl
  have x2 : w1.cell? ⟨w.heap.size, 2, none⟩ = some (.int .u32 locks) := B1.out.cell 2 rfl
  have x3 : w1.cell? ⟨w.heap.size, 3, none⟩ = some (.int .i64 a) := B1.out.cell 3 rfl
  have x4 : w1.cell? ⟨w.heap.size, 4, none⟩ = some (.int .i64 b) := B1.out.cell 4 rfl
  have x5 : w1.cell? ⟨w.heap.size, 5, none⟩ = some (.int .i64 c) := B1.out.cell 5 rfl
  have x6 : w1.cell? ⟨w.heap.size, 6, none⟩ = some (.int .i64 d) := B1.out.cell 6 rfl
  go_wp2_with fail
  refine (K2.out _).mono ?_
  rintro e w2 ⟨rfl, hb⟩
  have B2 := Lib.hid (B1.out.below hb)
  clear hb B1 x0 x1 x2 x3 x4 x5 x6
  go_wp2_with fail
  go_returns
  exact ⟨rfl, B2.out.lo⟩
end Go.Proofs.YtngomgkinaodjaaDoor
