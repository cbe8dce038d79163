/- What a frame puts out that is none, by the document. Conditions: the seven errors lie apart. -/
import Derived.Test.YtiiomiekjlggfaaDoorActF
namespace Go.Proofs.YtiiomiekjlggfaaDoor
open Go Go.RowKit
set_option linter.unusedVariables false
set_option maxRecDepth 20000
set_option maxHeartbeats 8000000 in
theorem rrId (id sq : Int) (a : Option Addr) (n cap : Nat) (hid : id ≠ 96) (w : World) :
    Calls Tryd.prog 28 #[.agg #[.int .u8 id, .int .u8 sq, .slice a n cap]] w fun r w' => r = .returned (.tuple #[outV 0 0 0 0 0, .int .i64 101]) ∧ Below w.heap.size w w' := by
  have g0 : (id != 96) = true := by simp [hid]
  go_enter Tryd.func28, Tryd.ntmps28
  go_upto_region 1 with fail
  have B0 := Lib.hid (Bx2.new w #[.int .u8 id, .int .u8 sq, .slice a n cap] 24 #[.int .i64 0, .int .i64 0, .int .i64 0, .int .i64 0, .int .i64 0] 49)
  generalize World.alloc (World.alloc w _) _ = W at *
  have x0 : W.cell? ⟨w.heap.size, 0, none⟩ = some (.int .u8 id) := B0.out.cell1 0 rfl
  have x2 : W.cell? ⟨w.heap.size, 2, none⟩ = some (.slice a n cap) := B0.out.cell1 2 rfl
  have y0 : W.cell? ⟨w.heap.size + 1, 0, none⟩ = some (.int .i64 0) := B0.out.cell2 0 rfl
  have y1 : W.cell? ⟨w.heap.size + 1, 1, none⟩ = some (.int .i64 0) := B0.out.cell2 1 rfl
  have y2 : W.cell? ⟨w.heap.size + 1, 2, none⟩ = some (.int .i64 0) := B0.out.cell2 2 rfl
  have y3 : W.cell? ⟨w.heap.size + 1, 3, none⟩ = some (.int .i64 0) := B0.out.cell2 3 rfl
  have y4 : W.cell? ⟨w.heap.size + 1, 4, none⟩ = some (.int .i64 0) := B0.out.cell2 4 rfl
  have yf := B0.out.froz2
  go_wp2_with fail
  have B7 := Lib.hid (((((B0.out.set2 0 (.int .i64 0)).set2 1 (.int .i64 0)).set2 2 (.int .i64 0)).set2 3 (.int .i64 0)).set2 4 (.int .i64 0))
  clear y0 y1 y2 y3 y4 yf
  generalize World.setCell _ _ _ = W7 at *
  have p0 : W7.cell? ⟨w.heap.size + 1, 0, none⟩ = some (.int .i64 0) := B7.out.cell2 0 rfl
  have p1 : W7.cell? ⟨w.heap.size + 1, 1, none⟩ = some (.int .i64 0) := B7.out.cell2 1 rfl
  have p2 : W7.cell? ⟨w.heap.size + 1, 2, none⟩ = some (.int .i64 0) := B7.out.cell2 2 rfl
  have p3 : W7.cell? ⟨w.heap.size + 1, 3, none⟩ = some (.int .i64 0) := B7.out.cell2 3 rfl
  have p4 : W7.cell? ⟨w.heap.size + 1, 4, none⟩ = some (.int .i64 0) := B7.out.cell2 4 rfl
  refine bodyPost_ret (v := .tuple #[outV (0) (0) (0) (0) (0), .int .i64 101]) (by simp [results, Tryd.results28, go_sem, outV, p0, p1, p2, p3, p4]) rfl ⟨rfl, B7.out.lo⟩
set_option maxHeartbeats 8000000 in
theorem rrShort (id sq : Int) (a : Option Addr) (n cap : Nat) (hid : id = 96) (hn : n < 7) (w : World) :
    Calls Tryd.prog 28 #[.agg #[.int .u8 id, .int .u8 sq, .slice a n cap]] w fun r w' => r = .returned (.tuple #[outV 0 0 0 0 0, .int .i64 103]) ∧ Below w.heap.size w w' := by
  subst hid
  have KL := Lib.hid fun (w : World) => longC 96 sq a n cap 7 w
  rw [if_pos hn] at KL
  go_enter Tryd.func28, Tryd.ntmps28
  go_upto_region 1 with fail
  have B0 := Lib.hid (Bx2.new w #[.int .u8 96, .int .u8 sq, .slice a n cap] 24 #[.int .i64 0, .int .i64 0, .int .i64 0, .int .i64 0, .int .i64 0] 49)
  generalize World.alloc (World.alloc w _) _ = W at *
  have x0 : W.cell? ⟨w.heap.size, 0, none⟩ = some (.int .u8 96) := B0.out.cell1 0 rfl
  have x2 : W.cell? ⟨w.heap.size, 2, none⟩ = some (.slice a n cap) := B0.out.cell1 2 rfl
  have x1 : W.cell? ⟨w.heap.size, 1, none⟩ = some (.int .u8 sq) := B0.out.cell1 1 rfl
  go_wp2_with fail
  refine (KL.out _).mono ?_
  rintro e w1 ⟨rfl, hb⟩
  have B1 := Lib.hid (B0.out.below hb)
  clear hb B0 x0 x1 x2
  have y0 : w1.cell? ⟨w.heap.size + 1, 0, none⟩ = some (.int .i64 0) := B1.out.cell2 0 rfl
  have y1 : w1.cell? ⟨w.heap.size + 1, 1, none⟩ = some (.int .i64 0) := B1.out.cell2 1 rfl
  have y2 : w1.cell? ⟨w.heap.size + 1, 2, none⟩ = some (.int .i64 0) := B1.out.cell2 2 rfl
  have y3 : w1.cell? ⟨w.heap.size + 1, 3, none⟩ = some (.int .i64 0) := B1.out.cell2 3 rfl
  have y4 : w1.cell? ⟨w.heap.size + 1, 4, none⟩ = some (.int .i64 0) := B1.out.cell2 4 rfl
  have yf := B1.out.froz2
  go_wp2_with fail
  have B7 := Lib.hid (((((B1.out.set2 0 (.int .i64 0)).set2 1 (.int .i64 0)).set2 2 (.int .i64 0)).set2 3 (.int .i64 0)).set2 4 (.int .i64 0))
  clear y0 y1 y2 y3 y4 yf
  generalize World.setCell _ _ _ = W7 at *
  have p0 : W7.cell? ⟨w.heap.size + 1, 0, none⟩ = some (.int .i64 0) := B7.out.cell2 0 rfl
  have p1 : W7.cell? ⟨w.heap.size + 1, 1, none⟩ = some (.int .i64 0) := B7.out.cell2 1 rfl
  have p2 : W7.cell? ⟨w.heap.size + 1, 2, none⟩ = some (.int .i64 0) := B7.out.cell2 2 rfl
  have p3 : W7.cell? ⟨w.heap.size + 1, 3, none⟩ = some (.int .i64 0) := B7.out.cell2 3 rfl
  have p4 : W7.cell? ⟨w.heap.size + 1, 4, none⟩ = some (.int .i64 0) := B7.out.cell2 4 rfl
  refine bodyPost_ret (v := .tuple #[outV (0) (0) (0) (0) (0), .int .i64 103]) (by simp [results, Tryd.results28, go_sem, outV, p0, p1, p2, p3, p4]) rfl ⟨rfl, B7.out.lo⟩
set_option maxHeartbeats 8000000 in
theorem rrLong (id sq : Int) (a : Option Addr) (n cap : Nat) (hid : id = 96) (hn : 7 < n) (w : World) :
    Calls Tryd.prog 28 #[.agg #[.int .u8 id, .int .u8 sq, .slice a n cap]] w fun r w' => r = .returned (.tuple #[outV 0 0 0 0 0, .int .i64 102]) ∧ Below w.heap.size w w' := by
  subst hid
  have KL := Lib.hid fun (w : World) => longC 96 sq a n cap 7 w
  rw [if_neg (by omega), if_pos hn] at KL
  go_enter Tryd.func28, Tryd.ntmps28
  go_upto_region 1 with fail
  have B0 := Lib.hid (Bx2.new w #[.int .u8 96, .int .u8 sq, .slice a n cap] 24 #[.int .i64 0, .int .i64 0, .int .i64 0, .int .i64 0, .int .i64 0] 49)
  generalize World.alloc (World.alloc w _) _ = W at *
  have x0 : W.cell? ⟨w.heap.size, 0, none⟩ = some (.int .u8 96) := B0.out.cell1 0 rfl
  have x2 : W.cell? ⟨w.heap.size, 2, none⟩ = some (.slice a n cap) := B0.out.cell1 2 rfl
  have x1 : W.cell? ⟨w.heap.size, 1, none⟩ = some (.int .u8 sq) := B0.out.cell1 1 rfl
  go_wp2_with fail
  refine (KL.out _).mono ?_
  rintro e w1 ⟨rfl, hb⟩
  have B1 := Lib.hid (B0.out.below hb)
  clear hb B0 x0 x1 x2
  have y0 : w1.cell? ⟨w.heap.size + 1, 0, none⟩ = some (.int .i64 0) := B1.out.cell2 0 rfl
  have y1 : w1.cell? ⟨w.heap.size + 1, 1, none⟩ = some (.int .i64 0) := B1.out.cell2 1 rfl
  have y2 : w1.cell? ⟨w.heap.size + 1, 2, none⟩ = some (.int .i64 0) := B1.out.cell2 2 rfl
  have y3 : w1.cell? ⟨w.heap.size + 1, 3, none⟩ = some (.int .i64 0) := B1.out.cell2 3 rfl
  have y4 : w1.cell? ⟨w.heap.size + 1, 4, none⟩ = some (.int .i64 0) := B1.out.cell2 4 rfl
  have yf := B1.out.froz2
  go_wp2_with fail
  have B7 := Lib.hid (((((B1.out.set2 0 (.int .i64 0)).set2 1 (.int .i64 0)).set2 2 (.int .i64 0)).set2 3 (.int .i64 0)).set2 4 (.int .i64 0))
  clear y0 y1 y2 y3 y4 yf
  generalize World.setCell _ _ _ = W7 at *
  have p0 : W7.cell? ⟨w.heap.size + 1, 0, none⟩ = some (.int .i64 0) := B7.out.cell2 0 rfl
  have p1 : W7.cell? ⟨w.heap.size + 1, 1, none⟩ = some (.int .i64 0) := B7.out.cell2 1 rfl
  have p2 : W7.cell? ⟨w.heap.size + 1, 2, none⟩ = some (.int .i64 0) := B7.out.cell2 2 rfl
  have p3 : W7.cell? ⟨w.heap.size + 1, 3, none⟩ = some (.int .i64 0) := B7.out.cell2 3 rfl
  have p4 : W7.cell? ⟨w.heap.size + 1, 4, none⟩ = some (.int .i64 0) := B7.out.cell2 4 rfl
  refine bodyPost_ret (v := .tuple #[outV (0) (0) (0) (0) (0), .int .i64 102]) (by simp [results, Tryd.results28, go_sem, outV, p0, p1, p2, p3, p4]) rfl ⟨rfl, B7.out.lo⟩
end Go.Proofs.YtiiomiekjlggfaaDoor
