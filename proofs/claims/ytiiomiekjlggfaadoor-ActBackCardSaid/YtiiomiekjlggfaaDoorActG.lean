/- What a frame puts out that is none. Conditions: the seven errors lie apart. -/
import Derived.Test.YtiiomiekjlggfaaDoorActF
namespace Go.Proofs.YtiiomiekjlggfaaDoor
open Go Go.RowKit
set_option linter.unusedVariables false
set_option maxRecDepth 20000
set_option maxHeartbeats 8000000 in
theorem rdId {E : Nat → Addr} (id sq : Int) (a : Option Addr) (n cap : Nat) (hid : id ≠ 96) (w : World) (he : Ers E w) :
    Calls Tryd.prog 27 #[.agg #[.int .u8 id, .int .u8 sq, .slice a n cap]] w fun r w' => r = .returned (.tuple #[outV 0 0 0 0 0, .iface 102 (.pointer (some (E 0)))]) ∧ Below w.heap.size w w' := by
  have HE := Lib.hid he
  clear he
  have g0 : (id != 96) = true := by simp [hid]
  go_enter Tryd.func27, Tryd.ntmps27
  go_upto_region 1 with fail
  have B0 := Lib.hid (Bx2.new w #[.int .u8 id, .int .u8 sq, .slice a n cap] 24 #[.int .i64 0, .int .i64 0, .int .i64 0, .int .i64 0, .int .i64 0] 49)
  generalize World.alloc (World.alloc w _) _ = W at *
  have x0 : W.cell? ⟨w.heap.size, 0, none⟩ = some (.int .u8 id) := B0.out.cell1 0 rfl
  have x2 : W.cell? ⟨w.heap.size, 2, none⟩ = some (.slice a n cap) := B0.out.cell1 2 rfl
  have GE := Lib.hid fun d => (HE.out.below (B0.out.lo.trans (reach_below w.heap.size W d))).g0
  go_upto_region 2 with fail
  have q0 := GE.out
  unfold errV at q0
  have DW := (Below.refl w.heap.size W).drew
  have S0 := Lib.hid (show ∃ d, W.drew = reach w.heap.size W d from ⟨_, (reach_of DW).symm⟩)
  have S1 := Lib.hid (show ∃ d, (World.setCell (World.setCell (World.setCell (World.setCell (World.setCell W ⟨w.heap.size + 1, 0, none⟩ (.int .i64 0)) ⟨w.heap.size + 1, 1, none⟩ (.int .i64 0)) ⟨w.heap.size + 1, 2, none⟩ (.int .i64 0)) ⟨w.heap.size + 1, 3, none⟩ (.int .i64 0)) ⟨w.heap.size + 1, 4, none⟩ (.int .i64 0)).drew = reach w.heap.size W d from ⟨_, (reach_of (((((((Below.refl w.heap.size W).setCell (p := ⟨w.heap.size + 1, 0, none⟩) (show w.heap.size ≤ w.heap.size + 1 by omega) (.int .i64 0)).setCell (p := ⟨w.heap.size + 1, 1, none⟩) (show w.heap.size ≤ w.heap.size + 1 by omega) (.int .i64 0)).setCell (p := ⟨w.heap.size + 1, 2, none⟩) (show w.heap.size ≤ w.heap.size + 1 by omega) (.int .i64 0)).setCell (p := ⟨w.heap.size + 1, 3, none⟩) (show w.heap.size ≤ w.heap.size + 1 by omega) (.int .i64 0)).setCell (p := ⟨w.heap.size + 1, 4, none⟩) (show w.heap.size ≤ w.heap.size + 1 by omega) (.int .i64 0))).drew).symm⟩)
  have BD := Lib.hid (show Bx2 w W.drew _ 24 _ 49 from ⟨B0.out.row1, B0.out.row2, B0.out.lo.drew⟩)
  clear x0 x2 DW
  have y0 : W.cell? ⟨w.heap.size + 1, 0, none⟩ = some (.int .i64 0) := B0.out.cell2 0 rfl
  have y1 : W.cell? ⟨w.heap.size + 1, 1, none⟩ = some (.int .i64 0) := B0.out.cell2 1 rfl
  have y2 : W.cell? ⟨w.heap.size + 1, 2, none⟩ = some (.int .i64 0) := B0.out.cell2 2 rfl
  have y3 : W.cell? ⟨w.heap.size + 1, 3, none⟩ = some (.int .i64 0) := B0.out.cell2 3 rfl
  have y4 : W.cell? ⟨w.heap.size + 1, 4, none⟩ = some (.int .i64 0) := B0.out.cell2 4 rfl
  have yf := B0.out.froz2
  refine wp_region_mix (fun w' => ∃ d, w' = reach w.heap.size W d) (by kernel_rfl) ?_
  change wpAnyH _ _ _ _ _ 4 (Array.replicate 4 false) _ _
  refine mix_quiet 0 rfl (by kernel_rfl) (by kernel_rfl) (by kernel_rfl) (by kernel_rfl) (by kernel_rfl) S0.out ?_
  intro K hK
  go_big_quiet_op
  first | go_big_quiet_on | (refine ⟨_, fun _ _ => rfl, ?_⟩; go_big_quiet_on)
  try simp only [Act.put, List.setIfInBounds_toArray, List.set_cons_succ, List.set_cons_zero]
  refine mix_quiet 1 rfl (by kernel_rfl) (by kernel_rfl) (by kernel_rfl) (by kernel_rfl) (by kernel_rfl) S0.out ?_
  intro K hK
  go_big_quiet_op
  first | go_big_quiet_on | (refine ⟨_, fun _ _ => rfl, ?_⟩; go_big_quiet_on)
  try simp only [Act.put, List.setIfInBounds_toArray, List.set_cons_succ, List.set_cons_zero]
  refine mix_one 2 rfl (by kernel_rfl) ?_
  intro R hR
  go_wp2_with fail
  refine ⟨S1.out, ?_⟩
  try simp only [Act.put, List.setIfInBounds_toArray, List.set_cons_succ, List.set_cons_zero]
  refine mix_quiet 3 rfl (by kernel_rfl) (by kernel_rfl) (by kernel_rfl) (by kernel_rfl) (by kernel_rfl) S1.out ?_
  intro K hK
  go_big_quiet_op
  first | go_big_quiet_on | (refine ⟨_, fun _ _ => rfl, ?_⟩; go_big_quiet_on)
  try simp only [Act.put, List.setIfInBounds_toArray, List.set_cons_succ, List.set_cons_zero]
  refine mix_done (by kernel_rfl) ?_
  have B6 := Lib.hid (((((B0.out.set2 0 (.int .i64 0)).set2 1 (.int .i64 0)).set2 2 (.int .i64 0)).set2 3 (.int .i64 0)).set2 4 (.int .i64 0))
  have B7 := Lib.hid (show Bx2 w (World.setCell (World.setCell (World.setCell (World.setCell (World.setCell W ⟨w.heap.size + 1, 0, none⟩ (.int .i64 0)) ⟨w.heap.size + 1, 1, none⟩ (.int .i64 0)) ⟨w.heap.size + 1, 2, none⟩ (.int .i64 0)) ⟨w.heap.size + 1, 3, none⟩ (.int .i64 0)) ⟨w.heap.size + 1, 4, none⟩ (.int .i64 0)).drew _ 24 _ 49 from ⟨B6.out.row1, B6.out.row2, B6.out.lo.drew⟩)
  clear y0 y1 y2 y3 y4 yf q0 S0 S1 BD B0 B6
  generalize World.drew _ = W3 at *
  go_wp2_with fail
  have p0 : W3.cell? ⟨w.heap.size + 1, 0, none⟩ = some (.int .i64 0) := B7.out.cell2 0 rfl
  have p1 : W3.cell? ⟨w.heap.size + 1, 1, none⟩ = some (.int .i64 0) := B7.out.cell2 1 rfl
  have p2 : W3.cell? ⟨w.heap.size + 1, 2, none⟩ = some (.int .i64 0) := B7.out.cell2 2 rfl
  have p3 : W3.cell? ⟨w.heap.size + 1, 3, none⟩ = some (.int .i64 0) := B7.out.cell2 3 rfl
  have p4 : W3.cell? ⟨w.heap.size + 1, 4, none⟩ = some (.int .i64 0) := B7.out.cell2 4 rfl
  refine bodyPost_ret (v := .tuple #[outV (0) (0) (0) (0) (0), .iface 102 (.pointer (some (E 0)))]) (by simp [results, Tryd.results27, go_sem, outV, p0, p1, p2, p3, p4]) rfl ⟨rfl, B7.out.lo⟩
set_option maxHeartbeats 8000000 in
theorem rdShort {E : Nat → Addr} (id sq : Int) (a : Option Addr) (n cap : Nat) (hid : id = 96) (hn : n < 7) (w : World) (he : Ers E w) :
    Calls Tryd.prog 27 #[.agg #[.int .u8 id, .int .u8 sq, .slice a n cap]] w fun r w' => r = .returned (.tuple #[outV 0 0 0 0 0, .iface 102 (.pointer (some (E 2)))]) ∧ Below w.heap.size w w' := by
  have HE := Lib.hid he
  clear he
  subst hid
  have g1 : decide ((n : Int) < 7) = true := decide_eq_true (by omega)
  go_enter Tryd.func27, Tryd.ntmps27
  go_upto_region 1 with fail
  have B0 := Lib.hid (Bx2.new w #[.int .u8 96, .int .u8 sq, .slice a n cap] 24 #[.int .i64 0, .int .i64 0, .int .i64 0, .int .i64 0, .int .i64 0] 49)
  generalize World.alloc (World.alloc w _) _ = W at *
  have x0 : W.cell? ⟨w.heap.size, 0, none⟩ = some (.int .u8 96) := B0.out.cell1 0 rfl
  have x2 : W.cell? ⟨w.heap.size, 2, none⟩ = some (.slice a n cap) := B0.out.cell1 2 rfl
  have GE := Lib.hid fun d => (HE.out.below (B0.out.lo.trans (reach_below w.heap.size W d))).g2
  go_upto_region 4 with fail
  have q0 := GE.out
  unfold errV at q0
  have DW := (Below.refl w.heap.size W).drew
  have S0 := Lib.hid (show ∃ d, W.drew = reach w.heap.size W d from ⟨_, (reach_of DW).symm⟩)
  have S1 := Lib.hid (show ∃ d, (World.setCell (World.setCell (World.setCell (World.setCell (World.setCell W ⟨w.heap.size + 1, 0, none⟩ (.int .i64 0)) ⟨w.heap.size + 1, 1, none⟩ (.int .i64 0)) ⟨w.heap.size + 1, 2, none⟩ (.int .i64 0)) ⟨w.heap.size + 1, 3, none⟩ (.int .i64 0)) ⟨w.heap.size + 1, 4, none⟩ (.int .i64 0)).drew = reach w.heap.size W d from ⟨_, (reach_of (((((((Below.refl w.heap.size W).setCell (p := ⟨w.heap.size + 1, 0, none⟩) (show w.heap.size ≤ w.heap.size + 1 by omega) (.int .i64 0)).setCell (p := ⟨w.heap.size + 1, 1, none⟩) (show w.heap.size ≤ w.heap.size + 1 by omega) (.int .i64 0)).setCell (p := ⟨w.heap.size + 1, 2, none⟩) (show w.heap.size ≤ w.heap.size + 1 by omega) (.int .i64 0)).setCell (p := ⟨w.heap.size + 1, 3, none⟩) (show w.heap.size ≤ w.heap.size + 1 by omega) (.int .i64 0)).setCell (p := ⟨w.heap.size + 1, 4, none⟩) (show w.heap.size ≤ w.heap.size + 1 by omega) (.int .i64 0))).drew).symm⟩)
  have BD := Lib.hid (show Bx2 w W.drew _ 24 _ 49 from ⟨B0.out.row1, B0.out.row2, B0.out.lo.drew⟩)
  clear x0 x2 DW
  have y0 : W.cell? ⟨w.heap.size + 1, 0, none⟩ = some (.int .i64 0) := B0.out.cell2 0 rfl
  have y1 : W.cell? ⟨w.heap.size + 1, 1, none⟩ = some (.int .i64 0) := B0.out.cell2 1 rfl
  have y2 : W.cell? ⟨w.heap.size + 1, 2, none⟩ = some (.int .i64 0) := B0.out.cell2 2 rfl
  have y3 : W.cell? ⟨w.heap.size + 1, 3, none⟩ = some (.int .i64 0) := B0.out.cell2 3 rfl
  have y4 : W.cell? ⟨w.heap.size + 1, 4, none⟩ = some (.int .i64 0) := B0.out.cell2 4 rfl
  have yf := B0.out.froz2
  refine wp_region_mix (fun w' => ∃ d, w' = reach w.heap.size W d) (by kernel_rfl) ?_
  change wpAnyH _ _ _ _ _ 4 (Array.replicate 4 false) _ _
  refine mix_quiet 0 rfl (by kernel_rfl) (by kernel_rfl) (by kernel_rfl) (by kernel_rfl) (by kernel_rfl) S0.out ?_
  intro K hK
  go_big_quiet_op
  first | go_big_quiet_on | (refine ⟨_, fun _ _ => rfl, ?_⟩; go_big_quiet_on)
  try simp only [Act.put, List.setIfInBounds_toArray, List.set_cons_succ, List.set_cons_zero]
  refine mix_quiet 1 rfl (by kernel_rfl) (by kernel_rfl) (by kernel_rfl) (by kernel_rfl) (by kernel_rfl) S0.out ?_
  intro K hK
  go_big_quiet_op
  first | go_big_quiet_on | (refine ⟨_, fun _ _ => rfl, ?_⟩; go_big_quiet_on)
  try simp only [Act.put, List.setIfInBounds_toArray, List.set_cons_succ, List.set_cons_zero]
  refine mix_one 2 rfl (by kernel_rfl) ?_
  intro R hR
  go_wp2_with fail
  refine ⟨S1.out, ?_⟩
  try simp only [Act.put, List.setIfInBounds_toArray, List.set_cons_succ, List.set_cons_zero]
  refine mix_quiet 3 rfl (by kernel_rfl) (by kernel_rfl) (by kernel_rfl) (by kernel_rfl) (by kernel_rfl) S1.out ?_
  intro K hK
  go_big_quiet_op
  first | go_big_quiet_on | (refine ⟨_, fun _ _ => rfl, ?_⟩; go_big_quiet_on)
  try simp only [Act.put, List.setIfInBounds_toArray, List.set_cons_succ, List.set_cons_zero]
  refine mix_done (by kernel_rfl) ?_
  have B6 := Lib.hid (((((B0.out.set2 0 (.int .i64 0)).set2 1 (.int .i64 0)).set2 2 (.int .i64 0)).set2 3 (.int .i64 0)).set2 4 (.int .i64 0))
  have B7 := Lib.hid (show Bx2 w (World.setCell (World.setCell (World.setCell (World.setCell (World.setCell W ⟨w.heap.size + 1, 0, none⟩ (.int .i64 0)) ⟨w.heap.size + 1, 1, none⟩ (.int .i64 0)) ⟨w.heap.size + 1, 2, none⟩ (.int .i64 0)) ⟨w.heap.size + 1, 3, none⟩ (.int .i64 0)) ⟨w.heap.size + 1, 4, none⟩ (.int .i64 0)).drew _ 24 _ 49 from ⟨B6.out.row1, B6.out.row2, B6.out.lo.drew⟩)
  clear y0 y1 y2 y3 y4 yf q0 S0 S1 BD B0 B6
  generalize World.drew _ = W3 at *
  go_wp2_with fail
  have p0 : W3.cell? ⟨w.heap.size + 1, 0, none⟩ = some (.int .i64 0) := B7.out.cell2 0 rfl
  have p1 : W3.cell? ⟨w.heap.size + 1, 1, none⟩ = some (.int .i64 0) := B7.out.cell2 1 rfl
  have p2 : W3.cell? ⟨w.heap.size + 1, 2, none⟩ = some (.int .i64 0) := B7.out.cell2 2 rfl
  have p3 : W3.cell? ⟨w.heap.size + 1, 3, none⟩ = some (.int .i64 0) := B7.out.cell2 3 rfl
  have p4 : W3.cell? ⟨w.heap.size + 1, 4, none⟩ = some (.int .i64 0) := B7.out.cell2 4 rfl
  refine bodyPost_ret (v := .tuple #[outV (0) (0) (0) (0) (0), .iface 102 (.pointer (some (E 2)))]) (by simp [results, Tryd.results27, go_sem, outV, p0, p1, p2, p3, p4]) rfl ⟨rfl, B7.out.lo⟩
set_option maxHeartbeats 8000000 in
theorem rdLong {E : Nat → Addr} (id sq : Int) (a : Option Addr) (n cap : Nat) (hid : id = 96) (hn : 7 < n) (w : World) (he : Ers E w) :
    Calls Tryd.prog 27 #[.agg #[.int .u8 id, .int .u8 sq, .slice a n cap]] w fun r w' => r = .returned (.tuple #[outV 0 0 0 0 0, .iface 102 (.pointer (some (E 1)))]) ∧ Below w.heap.size w w' := by
  have HE := Lib.hid he
  clear he
  subst hid
  have g1 : decide ((n : Int) < 7) = false := decide_eq_false (by omega)
  have g2 : decide (7 < (n : Int)) = true := decide_eq_true (by omega)
  go_enter Tryd.func27, Tryd.ntmps27
  go_upto_region 1 with fail
  have B0 := Lib.hid (Bx2.new w #[.int .u8 96, .int .u8 sq, .slice a n cap] 24 #[.int .i64 0, .int .i64 0, .int .i64 0, .int .i64 0, .int .i64 0] 49)
  generalize World.alloc (World.alloc w _) _ = W at *
  have x0 : W.cell? ⟨w.heap.size, 0, none⟩ = some (.int .u8 96) := B0.out.cell1 0 rfl
  have x2 : W.cell? ⟨w.heap.size, 2, none⟩ = some (.slice a n cap) := B0.out.cell1 2 rfl
  have GE := Lib.hid fun d => (HE.out.below (B0.out.lo.trans (reach_below w.heap.size W d))).g1
  go_upto_region 6 with fail
  have q0 := GE.out
  unfold errV at q0
  have DW := (Below.refl w.heap.size W).drew
  have S0 := Lib.hid (show ∃ d, W.drew = reach w.heap.size W d from ⟨_, (reach_of DW).symm⟩)
  have S1 := Lib.hid (show ∃ d, (World.setCell (World.setCell (World.setCell (World.setCell (World.setCell W ⟨w.heap.size + 1, 0, none⟩ (.int .i64 0)) ⟨w.heap.size + 1, 1, none⟩ (.int .i64 0)) ⟨w.heap.size + 1, 2, none⟩ (.int .i64 0)) ⟨w.heap.size + 1, 3, none⟩ (.int .i64 0)) ⟨w.heap.size + 1, 4, none⟩ (.int .i64 0)).drew = reach w.heap.size W d from ⟨_, (reach_of (((((((Below.refl w.heap.size W).setCell (p := ⟨w.heap.size + 1, 0, none⟩) (show w.heap.size ≤ w.heap.size + 1 by omega) (.int .i64 0)).setCell (p := ⟨w.heap.size + 1, 1, none⟩) (show w.heap.size ≤ w.heap.size + 1 by omega) (.int .i64 0)).setCell (p := ⟨w.heap.size + 1, 2, none⟩) (show w.heap.size ≤ w.heap.size + 1 by omega) (.int .i64 0)).setCell (p := ⟨w.heap.size + 1, 3, none⟩) (show w.heap.size ≤ w.heap.size + 1 by omega) (.int .i64 0)).setCell (p := ⟨w.heap.size + 1, 4, none⟩) (show w.heap.size ≤ w.heap.size + 1 by omega) (.int .i64 0))).drew).symm⟩)
  have BD := Lib.hid (show Bx2 w W.drew _ 24 _ 49 from ⟨B0.out.row1, B0.out.row2, B0.out.lo.drew⟩)
  clear x0 x2 DW
  have y0 : W.cell? ⟨w.heap.size + 1, 0, none⟩ = some (.int .i64 0) := B0.out.cell2 0 rfl
  have y1 : W.cell? ⟨w.heap.size + 1, 1, none⟩ = some (.int .i64 0) := B0.out.cell2 1 rfl
  have y2 : W.cell? ⟨w.heap.size + 1, 2, none⟩ = some (.int .i64 0) := B0.out.cell2 2 rfl
  have y3 : W.cell? ⟨w.heap.size + 1, 3, none⟩ = some (.int .i64 0) := B0.out.cell2 3 rfl
  have y4 : W.cell? ⟨w.heap.size + 1, 4, none⟩ = some (.int .i64 0) := B0.out.cell2 4 rfl
  have yf := B0.out.froz2
  refine wp_region_mix (fun w' => ∃ d, w' = reach w.heap.size W d) (by kernel_rfl) ?_
  change wpAnyH _ _ _ _ _ 4 (Array.replicate 4 false) _ _
  refine mix_quiet 0 rfl (by kernel_rfl) (by kernel_rfl) (by kernel_rfl) (by kernel_rfl) (by kernel_rfl) S0.out ?_
  intro K hK
  go_big_quiet_op
  first | go_big_quiet_on | (refine ⟨_, fun _ _ => rfl, ?_⟩; go_big_quiet_on)
  try simp only [Act.put, List.setIfInBounds_toArray, List.set_cons_succ, List.set_cons_zero]
  refine mix_quiet 1 rfl (by kernel_rfl) (by kernel_rfl) (by kernel_rfl) (by kernel_rfl) (by kernel_rfl) S0.out ?_
  intro K hK
  go_big_quiet_op
  first | go_big_quiet_on | (refine ⟨_, fun _ _ => rfl, ?_⟩; go_big_quiet_on)
  try simp only [Act.put, List.setIfInBounds_toArray, List.set_cons_succ, List.set_cons_zero]
  refine mix_one 2 rfl (by kernel_rfl) ?_
  intro R hR
  go_wp2_with fail
  refine ⟨S1.out, ?_⟩
  try simp only [Act.put, List.setIfInBounds_toArray, List.set_cons_succ, List.set_cons_zero]
  refine mix_quiet 3 rfl (by kernel_rfl) (by kernel_rfl) (by kernel_rfl) (by kernel_rfl) (by kernel_rfl) S1.out ?_
  intro K hK
  go_big_quiet_op
  first | go_big_quiet_on | (refine ⟨_, fun _ _ => rfl, ?_⟩; go_big_quiet_on)
  try simp only [Act.put, List.setIfInBounds_toArray, List.set_cons_succ, List.set_cons_zero]
  refine mix_done (by kernel_rfl) ?_
  have B6 := Lib.hid (((((B0.out.set2 0 (.int .i64 0)).set2 1 (.int .i64 0)).set2 2 (.int .i64 0)).set2 3 (.int .i64 0)).set2 4 (.int .i64 0))
  have B7 := Lib.hid (show Bx2 w (World.setCell (World.setCell (World.setCell (World.setCell (World.setCell W ⟨w.heap.size + 1, 0, none⟩ (.int .i64 0)) ⟨w.heap.size + 1, 1, none⟩ (.int .i64 0)) ⟨w.heap.size + 1, 2, none⟩ (.int .i64 0)) ⟨w.heap.size + 1, 3, none⟩ (.int .i64 0)) ⟨w.heap.size + 1, 4, none⟩ (.int .i64 0)).drew _ 24 _ 49 from ⟨B6.out.row1, B6.out.row2, B6.out.lo.drew⟩)
  clear y0 y1 y2 y3 y4 yf q0 S0 S1 BD B0 B6
  generalize World.drew _ = W3 at *
  go_wp2_with fail
  have p0 : W3.cell? ⟨w.heap.size + 1, 0, none⟩ = some (.int .i64 0) := B7.out.cell2 0 rfl
  have p1 : W3.cell? ⟨w.heap.size + 1, 1, none⟩ = some (.int .i64 0) := B7.out.cell2 1 rfl
  have p2 : W3.cell? ⟨w.heap.size + 1, 2, none⟩ = some (.int .i64 0) := B7.out.cell2 2 rfl
  have p3 : W3.cell? ⟨w.heap.size + 1, 3, none⟩ = some (.int .i64 0) := B7.out.cell2 3 rfl
  have p4 : W3.cell? ⟨w.heap.size + 1, 4, none⟩ = some (.int .i64 0) := B7.out.cell2 4 rfl
  refine bodyPost_ret (v := .tuple #[outV (0) (0) (0) (0) (0), .iface 102 (.pointer (some (E 1)))]) (by simp [results, Tryd.results27, go_sem, outV, p0, p1, p2, p3, p4]) rfl ⟨rfl, B7.out.lo⟩
end Go.Proofs.YtiiomiekjlggfaaDoor
