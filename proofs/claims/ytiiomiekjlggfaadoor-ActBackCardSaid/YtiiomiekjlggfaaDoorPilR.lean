/- A command as a frame, a frame as a command. Conditions: the seven errors lie apart. -/
import Derived.Test.YtiiomiekjlggfaaDoorPilF
import Derived.Test.YtiiomiekjlggfaaDoorErrF
namespace Go.Proofs.YtiiomiekjlggfaaDoor
open Go.RowKit
set_option linter.unusedVariables false
set_option maxRecDepth 20000
set_option maxHeartbeats 4000000 in
theorem readId {E : Nat → Addr} (id sq : Int) (a : Option Addr) (n cap : Nat) (hid : id ≠ 80) (w : World) (he : Ers E w) :
    Calls Tryd.prog 16 #[.agg #[.int .u8 id, .int .u8 sq, .slice a n cap]] w fun e w' => e = .returned (.tuple #[.int .i64 0, .int .i64 0, .iface 102 (.pointer (some (E 0)))]) ∧ Below w.heap.size w w' := by
  have HE := Lib.hid he
  clear he
  have e0 : (id != 80) = true := by simp [hid]
  go_enter Tryd.func16, Tryd.ntmps16
  go_upto_region 1 with fail
  have B0 := Lib.hid (Bx.new w #[.int .u8 id, .int .u8 sq, .slice a n cap] 24)
  generalize World.alloc w _ = W at *
  have x0 : W.cell? ⟨w.heap.size, 0, none⟩ = some (.int .u8 id) := B0.out.cell 0 rfl
  have q0 := (HE.out.below B0.out.lo).g0
  unfold errV at q0
  go_wp2_with fail
  have G0 := fun d => below_cell (reach_below W.heap.size W d) q0
  refine wp_region_reach W.heap.size (by kernel_rfl) (by kernel_rfl) ?_
  repeat (go_big_quiet_step (fail))
  refine wpQuiet_nil ?_
  rintro w' ⟨d9, rfl⟩
  go_wp2_with fail
  go_returns
  exact ⟨rfl, (B0.out.reach d9).lo⟩
set_option maxHeartbeats 4000000 in
theorem readShort {E : Nat → Addr} (sq : Int) (a : Option Addr) (n cap : Nat) (hn : n < 2) (w : World) (he : Ers E w) :
    Calls Tryd.prog 16 #[.agg #[.int .u8 80, .int .u8 sq, .slice a n cap]] w fun e w' => e = .returned (.tuple #[.int .i64 0, .int .i64 0, .iface 102 (.pointer (some (E 2)))]) ∧ Below w.heap.size w w' := by
  have HE := Lib.hid he
  clear he
  have g1 : decide ((n : Int) < 2) = true := decide_eq_true (by omega)
  go_enter Tryd.func16, Tryd.ntmps16
  go_upto_region 1 with fail
  have B0 := Lib.hid (Bx.new w #[.int .u8 80, .int .u8 sq, .slice a n cap] 24)
  generalize World.alloc w _ = W at *
  have x0 : W.cell? ⟨w.heap.size, 0, none⟩ = some (.int .u8 80) := B0.out.cell 0 rfl
  have x2 : W.cell? ⟨w.heap.size, 2, none⟩ = some (.slice a n cap) := B0.out.cell 2 rfl
  have q0 := (HE.out.below B0.out.lo).g2
  unfold errV at q0
  go_wp2_with fail
  have G0 := fun d => below_cell (reach_below W.heap.size W d) q0
  refine wp_region_reach W.heap.size (by kernel_rfl) (by kernel_rfl) ?_
  repeat (go_big_quiet_step (fail))
  refine wpQuiet_nil ?_
  rintro w' ⟨d9, rfl⟩
  go_wp2_with fail
  go_returns
  exact ⟨rfl, (B0.out.reach d9).lo⟩
set_option maxHeartbeats 4000000 in
theorem readLong {E : Nat → Addr} (sq : Int) (a : Option Addr) (n cap : Nat) (hn : 2 < n) (w : World) (he : Ers E w) :
    Calls Tryd.prog 16 #[.agg #[.int .u8 80, .int .u8 sq, .slice a n cap]] w fun e w' => e = .returned (.tuple #[.int .i64 0, .int .i64 0, .iface 102 (.pointer (some (E 1)))]) ∧ Below w.heap.size w w' := by
  have HE := Lib.hid he
  clear he
  have g1 : decide ((n : Int) < 2) = false := decide_eq_false (by omega)
  have g2 : decide ((2 : Int) < (n : Int)) = true := decide_eq_true (by omega)
  go_enter Tryd.func16, Tryd.ntmps16
  go_upto_region 1 with fail
  have B0 := Lib.hid (Bx.new w #[.int .u8 80, .int .u8 sq, .slice a n cap] 24)
  generalize World.alloc w _ = W at *
  have x0 : W.cell? ⟨w.heap.size, 0, none⟩ = some (.int .u8 80) := B0.out.cell 0 rfl
  have x2 : W.cell? ⟨w.heap.size, 2, none⟩ = some (.slice a n cap) := B0.out.cell 2 rfl
  have q0 := (HE.out.below B0.out.lo).g1
  unfold errV at q0
  go_wp2_with fail
  have G0 := fun d => below_cell (reach_below W.heap.size W d) q0
  refine wp_region_reach W.heap.size (by kernel_rfl) (by kernel_rfl) ?_
  repeat (go_big_quiet_step (fail))
  refine wpQuiet_nil ?_
  rintro w' ⟨d9, rfl⟩
  go_wp2_with fail
  go_returns
  exact ⟨rfl, (B0.out.reach d9).lo⟩
set_option maxHeartbeats 4000000 in
theorem readNo {E : Nat → Addr} (sq b0 b1 : Int) (B cap : Nat) (hb0 : 0 ≤ b0 ∧ b0 < 256) (hb1 : 0 ≤ b1 ∧ b1 < 256) (hk : kn b0 b1 = false) (w : World) (he : Ers E w) (c0 : w.cell? ⟨B, 0, none⟩ = some (.int .u8 b0)) (c1 : w.cell? ⟨B, 1, none⟩ = some (.int .u8 b1)) :
    Calls Tryd.prog 16 #[.agg #[.int .u8 80, .int .u8 sq, .slice (some ⟨B, 0, none⟩) 2 cap]] w fun e w' => e = .returned (.tuple #[.int .i64 0, .int .i64 0, .iface 102 (.pointer (some (E 0)))]) ∧ Below w.heap.size w w' := by
  have HE := Lib.hid he
  clear he
  have K := Lib.hid fun (w : World) => knownC b0 b1 w
  rw [hk] at K
  clear hk
  go_enter Tryd.func16, Tryd.ntmps16
  go_upto_region 1 with fail
  have B0 := Lib.hid (Bx.new w #[.int .u8 80, .int .u8 sq, .slice (some ⟨B, 0, none⟩) 2 cap] 24)
  generalize World.alloc w _ = W at *
  have x0 : W.cell? ⟨w.heap.size, 0, none⟩ = some (.int .u8 80) := B0.out.cell 0 rfl
  have x2 : W.cell? ⟨w.heap.size, 2, none⟩ = some (.slice (some ⟨B, 0, none⟩) 2 cap) := B0.out.cell 2 rfl
  have d0 := below_cell B0.out.lo c0
  have d1 := below_cell B0.out.lo c1
  have q0 := (HE.out.below B0.out.lo).g0
  unfold errV at q0
  clear c0 c1
  have s0 := fun d => below_cell (reach_below W.heap.size W d) x2
  have s1 := fun d => below_cell (reach_below W.heap.size W d) d0
  have s2 := fun d => below_cell (reach_below W.heap.size W d) d1
  have v0 : IntKind.i64.wrap b0 = b0 := IntWalk.i64_in _ (by omega)
  have v1 : IntKind.i64.wrap b1 = b1 := IntWalk.i64_in _ (by omega)
  go_upto_region 7 with fail
  refine wp_region_reach W.heap.size (by kernel_rfl) (by kernel_rfl) ?_
  repeat (go_big_quiet_step (fail))
  refine wpQuiet_nil ?_
  rintro w' ⟨d, rfl⟩
  have B1 := Lib.hid (B0.out.reach d)
  have q1 := (HE.out.below B1.out.lo).g0
  unfold errV at q1
  clear s0 s1 s2 x0 x2 d0 d1 q0 B0
  generalize reach W.heap.size W d = W2 at *
  go_wp2_with fail
  refine (K.out _).mono ?_
  rintro e w5 ⟨rfl, rfl⟩
  go_wp2_with fail
  have G0 := fun d => below_cell (reach_below W2.heap.size W2 d) q1
  refine wp_region_reach W2.heap.size (by kernel_rfl) (by kernel_rfl) ?_
  repeat (go_big_quiet_step (fail))
  refine wpQuiet_nil ?_
  rintro w' ⟨d9, rfl⟩
  go_wp2_with fail
  go_returns
  exact ⟨rfl, (B1.out.reach d9).lo⟩
set_option maxHeartbeats 4000000 in
theorem readGood (sq b0 b1 : Int) (B cap : Nat) (hb0 : 0 ≤ b0 ∧ b0 < 256) (hb1 : 0 ≤ b1 ∧ b1 < 256) (hk : kn b0 b1 = true) (w : World) (c0 : w.cell? ⟨B, 0, none⟩ = some (.int .u8 b0)) (c1 : w.cell? ⟨B, 1, none⟩ = some (.int .u8 b1)) :
    Calls Tryd.prog 16 #[.agg #[.int .u8 80, .int .u8 sq, .slice (some ⟨B, 0, none⟩) 2 cap]] w fun e w' => e = .returned (.tuple #[.int .i64 b0, .int .i64 b1, .nilIface]) ∧ Below w.heap.size w w' := by
  have K := Lib.hid fun (w : World) => knownC b0 b1 w
  rw [hk] at K
  clear hk
  go_enter Tryd.func16, Tryd.ntmps16
  go_upto_region 1 with fail
  have B0 := Lib.hid (Bx.new w #[.int .u8 80, .int .u8 sq, .slice (some ⟨B, 0, none⟩) 2 cap] 24)
  generalize World.alloc w _ = W at *
  have x0 : W.cell? ⟨w.heap.size, 0, none⟩ = some (.int .u8 80) := B0.out.cell 0 rfl
  have x2 : W.cell? ⟨w.heap.size, 2, none⟩ = some (.slice (some ⟨B, 0, none⟩) 2 cap) := B0.out.cell 2 rfl
  have d0 := below_cell B0.out.lo c0
  have d1 := below_cell B0.out.lo c1
  clear c0 c1
  have s0 := fun d => below_cell (reach_below W.heap.size W d) x2
  have s1 := fun d => below_cell (reach_below W.heap.size W d) d0
  have s2 := fun d => below_cell (reach_below W.heap.size W d) d1
  have v0 : IntKind.i64.wrap b0 = b0 := IntWalk.i64_in _ (by omega)
  have v1 : IntKind.i64.wrap b1 = b1 := IntWalk.i64_in _ (by omega)
  go_upto_region 7 with fail
  refine wp_region_reach W.heap.size (by kernel_rfl) (by kernel_rfl) ?_
  repeat (go_big_quiet_step (fail))
  refine wpQuiet_nil ?_
  rintro w' ⟨d, rfl⟩
  have B1 := Lib.hid (B0.out.reach d)
  clear s0 s1 s2 x0 x2 d0 d1 B0
  generalize reach W.heap.size W d = W2 at *
  go_wp2_with fail
  refine (K.out _).mono ?_
  rintro e w5 ⟨rfl, rfl⟩
  go_wp2_with fail
  go_returns
  exact ⟨rfl, B1.out.lo⟩
end Go.Proofs.YtiiomiekjlggfaaDoor
