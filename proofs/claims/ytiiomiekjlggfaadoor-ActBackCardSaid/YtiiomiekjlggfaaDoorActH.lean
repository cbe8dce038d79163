/- What a frame of seven bytes puts out. Conditions: the seven errors lie apart. -/
import Derived.Test.YtiiomiekjlggfaaDoorActF
namespace Go.Proofs.YtiiomiekjlggfaaDoor
open Go Go.RowKit
set_option linter.unusedVariables false
set_option maxRecDepth 20000
set_option maxHeartbeats 16000000 in
theorem rdSevenG {E : Nat → Addr} (w : World) (he : Ers E w) (sq : Int) (x : Addr) (cap : Nat) (b0 b1 b2 b3 b4 b5 b6 : Int) (h0 : 0 ≤ b0 ∧ b0 < 256) (h1 : 0 ≤ b1 ∧ b1 < 256) (h2 : 0 ≤ b2 ∧ b2 < 256) (h3 : 0 ≤ b3 ∧ b3 < 256) (h4 : 0 ≤ b4 ∧ b4 < 256) (h5 : 0 ≤ b5 ∧ b5 < 256) (h6 : 0 ≤ b6 ∧ b6 < 256) (c0 : w.cell? x = some (.int .u8 b0)) (c1 : w.cell? ⟨x.block, x.off + 1, none⟩ = some (.int .u8 b1)) (c2 : w.cell? ⟨x.block, x.off + 2, none⟩ = some (.int .u8 b2)) (c3 : w.cell? ⟨x.block, x.off + 3, none⟩ = some (.int .u8 b3)) (c4 : w.cell? ⟨x.block, x.off + 4, none⟩ = some (.int .u8 b4)) (c5 : w.cell? ⟨x.block, x.off + 5, none⟩ = some (.int .u8 b5)) (c6 : w.cell? ⟨x.block, x.off + 6, none⟩ = some (.int .u8 b6)) (hg : goodO b0 (b1 * 256 + b2) b3 b4 (b5 * 256 + b6) = true) :
    Calls Tryd.prog 27 #[.agg #[.int .u8 96, .int .u8 sq, .slice (some x) 7 cap]] w fun r w' => r = .returned (.tuple #[outV (b0) (b1 * 256 + b2) (b3) (b4) (b5 * 256 + b6), .nilIface]) ∧ Below w.heap.size w w' := by
  have HE := Lib.hid he
  have K := Lib.hid fun (w : World) (h : Ers E w) => checkC b0 (b1 * 256 + b2) b3 b4 (b5 * 256 + b6) w h
  rw [if_pos hg] at K
  clear he hg
  have v0 : IntKind.i64.wrap b0 = b0 := IntWalk.i64_in _ (by omega)
  have v1 : IntKind.i64.wrap b1 = b1 := IntWalk.i64_in _ (by omega)
  have v2 : IntKind.i64.wrap b2 = b2 := IntWalk.i64_in _ (by omega)
  have v3 : IntKind.i64.wrap b3 = b3 := IntWalk.i64_in _ (by omega)
  have v4 : IntKind.i64.wrap b4 = b4 := IntWalk.i64_in _ (by omega)
  have v5 : IntKind.i64.wrap b5 = b5 := IntWalk.i64_in _ (by omega)
  have v6 : IntKind.i64.wrap b6 = b6 := IntWalk.i64_in _ (by omega)
  have u1 : IntKind.i64.wrap (b1 * 256) = b1 * 256 := IntWalk.i64_in _ (by omega)
  have u5 : IntKind.i64.wrap (b5 * 256) = b5 * 256 := IntWalk.i64_in _ (by omega)
  have o1 := or_i64 b1 b2 h1.1 h1.2 h2.1 h2.2
  have o5 := or_i64 b5 b6 h5.1 h5.2 h6.1 h6.2
  go_enter Tryd.func27, Tryd.ntmps27
  go_upto_region 1 with fail
  have B0 := Lib.hid (Bx2.new w #[.int .u8 96, .int .u8 sq, .slice (some x) 7 cap] 24 #[.int .i64 0, .int .i64 0, .int .i64 0, .int .i64 0, .int .i64 0] 49)
  generalize World.alloc (World.alloc w _) _ = W at *
  have x0 : W.cell? ⟨w.heap.size, 0, none⟩ = some (.int .u8 96) := B0.out.cell1 0 rfl
  have x2 : W.cell? ⟨w.heap.size, 2, none⟩ = some (.slice (some x) 7 cap) := B0.out.cell1 2 rfl
  have d0 := below_cell B0.out.lo c0
  have d1 := below_cell B0.out.lo c1
  have d2 := below_cell B0.out.lo c2
  have d3 := below_cell B0.out.lo c3
  have d4 := below_cell B0.out.lo c4
  have d5 := below_cell B0.out.lo c5
  have d6 := below_cell B0.out.lo c6
  clear c0 h0 c1 h1 c2 h2 c3 h3 c4 h4 c5 h5 c6 h6
  go_upto_region 8 with fail
  have S0 := Lib.hid (show ∃ d, W.drew = reach W.heap.size W d from ⟨_, (reach_of (Below.refl W.heap.size W).drew).symm⟩)
  have s0 := fun d => below_cell (reach_below W.heap.size W d) d0
  have s1 := fun d => below_cell (reach_below W.heap.size W d) d1
  have s2 := fun d => below_cell (reach_below W.heap.size W d) d2
  have s3 := fun d => below_cell (reach_below W.heap.size W d) d3
  have s4 := fun d => below_cell (reach_below W.heap.size W d) d4
  have s5 := fun d => below_cell (reach_below W.heap.size W d) d5
  have s6 := fun d => below_cell (reach_below W.heap.size W d) d6
  clear x0 x2 d0 d1 d2 d3 d4 d5 d6
  have DA := (Below.refl W.heap.size W).drew.alloc (Nat.le_refl _) (.cells #[.int .i64 0, .int .i64 0, .int .i64 0, .int .i64 0, .int .i64 0] 49)
  have S1 := Lib.hid (show ∃ d, W.drew.alloc (.cells #[.int .i64 0, .int .i64 0, .int .i64 0, .int .i64 0, .int .i64 0] 49) = reach W.heap.size W d from ⟨_, (reach_of DA).symm⟩)
  have LB := (Below.refl W.heap.size W).alloc (Nat.le_refl _) (.cells #[.int .i64 b0, .int .i64 (b1 * 256 + b2), .int .i64 b3, .int .i64 b4, .int .i64 (b5 * 256 + b6)] 49)
  have L5 := Lib.hid LB.drew
  have S2 := Lib.hid (show ∃ d, (W.alloc (.cells #[.int .i64 b0, .int .i64 (b1 * 256 + b2), .int .i64 b3, .int .i64 b4, .int .i64 (b5 * 256 + b6)] 49)).drew = reach W.heap.size W d from ⟨_, (reach_of L5.out).symm⟩)
  have BN := Bx.new W #[.int .i64 b0, .int .i64 (b1 * 256 + b2), .int .i64 b3, .int .i64 b4, .int .i64 (b5 * 256 + b6)] 49
  have B5 := Lib.hid (show Bx W (W.alloc (.cells #[.int .i64 b0, .int .i64 (b1 * 256 + b2), .int .i64 b3, .int .i64 b4, .int .i64 (b5 * 256 + b6)] 49)).drew _ 49 from ⟨BN.row, BN.lo.drew⟩)
  clear DA BN LB
  refine wp_region_mix (fun w' => ∃ d, w' = reach W.heap.size W d) (by kernel_rfl) ?_
  change wpAnyH _ _ _ _ _ 35 (Array.replicate 35 false) _ _
  refine mix_quiet 0 rfl (by kernel_rfl) (by kernel_rfl) (by kernel_rfl) (by kernel_rfl) (by kernel_rfl) S0.out ?_
  intro K hK
  go_big_quiet_op
  first | go_big_quiet_on | (refine ⟨_, fun _ _ => rfl, ?_⟩; go_big_quiet_on)
  try simp only [Act.put, List.setIfInBounds_toArray, List.set_cons_succ, List.set_cons_zero]
  refine mix_quiet 1 rfl (by kernel_rfl) (by kernel_rfl) (by kernel_rfl) (by kernel_rfl) (by kernel_rfl) S0.out ?_
  intro K hK
  go_big_quiet_op
  first | go_big_quiet_on | (refine ⟨_, fun _ _ => rfl, ?_⟩; go_big_quiet_on)
  try simp only [Act.put, List.setIfInBounds_toArray, List.set_cons_succ, List.set_cons_zero]
  refine mix_quiet 2 rfl (by kernel_rfl) (by kernel_rfl) (by kernel_rfl) (by kernel_rfl) (by kernel_rfl) S0.out ?_
  intro K hK
  go_big_quiet_op
  first | go_big_quiet_on | (refine ⟨_, fun _ _ => rfl, ?_⟩; go_big_quiet_on)
  try simp only [Act.put, List.setIfInBounds_toArray, List.set_cons_succ, List.set_cons_zero]
  refine mix_val 3 (.int .i64 b0) rfl (by kernel_rfl) (by kernel_rfl) (by kernel_rfl) (by kernel_rfl) S0.out (fun u _ => by go_simp) ?_
  try simp only [Act.put, List.setIfInBounds_toArray, List.set_cons_succ, List.set_cons_zero]
  refine mix_quiet 4 rfl (by kernel_rfl) (by kernel_rfl) (by kernel_rfl) (by kernel_rfl) (by kernel_rfl) S0.out ?_
  intro K hK
  go_big_quiet_op
  first | go_big_quiet_on | (refine ⟨_, fun _ _ => rfl, ?_⟩; go_big_quiet_on)
  try simp only [Act.put, List.setIfInBounds_toArray, List.set_cons_succ, List.set_cons_zero]
  refine mix_quiet 5 rfl (by kernel_rfl) (by kernel_rfl) (by kernel_rfl) (by kernel_rfl) (by kernel_rfl) S0.out ?_
  intro K hK
  go_big_quiet_op
  first | go_big_quiet_on | (refine ⟨_, fun _ _ => rfl, ?_⟩; go_big_quiet_on)
  try simp only [Act.put, List.setIfInBounds_toArray, List.set_cons_succ, List.set_cons_zero]
  refine mix_quiet 6 rfl (by kernel_rfl) (by kernel_rfl) (by kernel_rfl) (by kernel_rfl) (by kernel_rfl) S0.out ?_
  intro K hK
  go_big_quiet_op
  first | go_big_quiet_on | (refine ⟨_, fun _ _ => rfl, ?_⟩; go_big_quiet_on)
  try simp only [Act.put, List.setIfInBounds_toArray, List.set_cons_succ, List.set_cons_zero]
  refine mix_val 7 (.int .i64 b1) rfl (by kernel_rfl) (by kernel_rfl) (by kernel_rfl) (by kernel_rfl) S0.out (fun u _ => by go_simp) ?_
  try simp only [Act.put, List.setIfInBounds_toArray, List.set_cons_succ, List.set_cons_zero]
  refine mix_quiet 8 rfl (by kernel_rfl) (by kernel_rfl) (by kernel_rfl) (by kernel_rfl) (by kernel_rfl) S0.out ?_
  intro K hK
  go_big_quiet_op
  first | go_big_quiet_on | (refine ⟨_, fun _ _ => rfl, ?_⟩; go_big_quiet_on)
  try simp only [Act.put, List.setIfInBounds_toArray, List.set_cons_succ, List.set_cons_zero]
  refine mix_quiet 9 rfl (by kernel_rfl) (by kernel_rfl) (by kernel_rfl) (by kernel_rfl) (by kernel_rfl) S0.out ?_
  intro K hK
  go_big_quiet_op
  first | go_big_quiet_on | (refine ⟨_, fun _ _ => rfl, ?_⟩; go_big_quiet_on)
  try simp only [Act.put, List.setIfInBounds_toArray, List.set_cons_succ, List.set_cons_zero]
  refine mix_quiet 10 rfl (by kernel_rfl) (by kernel_rfl) (by kernel_rfl) (by kernel_rfl) (by kernel_rfl) S0.out ?_
  intro K hK
  go_big_quiet_op
  first | go_big_quiet_on | (refine ⟨_, fun _ _ => rfl, ?_⟩; go_big_quiet_on)
  try simp only [Act.put, List.setIfInBounds_toArray, List.set_cons_succ, List.set_cons_zero]
  refine mix_quiet 11 rfl (by kernel_rfl) (by kernel_rfl) (by kernel_rfl) (by kernel_rfl) (by kernel_rfl) S0.out ?_
  intro K hK
  go_big_quiet_op
  first | go_big_quiet_on | (refine ⟨_, fun _ _ => rfl, ?_⟩; go_big_quiet_on)
  try simp only [Act.put, List.setIfInBounds_toArray, List.set_cons_succ, List.set_cons_zero]
  refine mix_val 12 (.int .i64 b2) rfl (by kernel_rfl) (by kernel_rfl) (by kernel_rfl) (by kernel_rfl) S0.out (fun u _ => by go_simp) ?_
  try simp only [Act.put, List.setIfInBounds_toArray, List.set_cons_succ, List.set_cons_zero]
  refine mix_quiet 13 rfl (by kernel_rfl) (by kernel_rfl) (by kernel_rfl) (by kernel_rfl) (by kernel_rfl) S0.out ?_
  intro K hK
  go_big_quiet_op
  first | go_big_quiet_on | (refine ⟨_, fun _ _ => rfl, ?_⟩; go_big_quiet_on)
  try simp only [Act.put, List.setIfInBounds_toArray, List.set_cons_succ, List.set_cons_zero]
  refine mix_quiet 14 rfl (by kernel_rfl) (by kernel_rfl) (by kernel_rfl) (by kernel_rfl) (by kernel_rfl) S0.out ?_
  intro K hK
  go_big_quiet_op
  first | go_big_quiet_on | (refine ⟨_, fun _ _ => rfl, ?_⟩; go_big_quiet_on)
  try simp only [Act.put, List.setIfInBounds_toArray, List.set_cons_succ, List.set_cons_zero]
  refine mix_quiet 15 rfl (by kernel_rfl) (by kernel_rfl) (by kernel_rfl) (by kernel_rfl) (by kernel_rfl) S0.out ?_
  intro K hK
  go_big_quiet_op
  first | go_big_quiet_on | (refine ⟨_, fun _ _ => rfl, ?_⟩; go_big_quiet_on)
  try simp only [Act.put, List.setIfInBounds_toArray, List.set_cons_succ, List.set_cons_zero]
  refine mix_quiet 16 rfl (by kernel_rfl) (by kernel_rfl) (by kernel_rfl) (by kernel_rfl) (by kernel_rfl) S0.out ?_
  intro K hK
  go_big_quiet_op
  first | go_big_quiet_on | (refine ⟨_, fun _ _ => rfl, ?_⟩; go_big_quiet_on)
  try simp only [Act.put, List.setIfInBounds_toArray, List.set_cons_succ, List.set_cons_zero]
  refine mix_val 17 (.int .i64 b3) rfl (by kernel_rfl) (by kernel_rfl) (by kernel_rfl) (by kernel_rfl) S0.out (fun u _ => by go_simp) ?_
  try simp only [Act.put, List.setIfInBounds_toArray, List.set_cons_succ, List.set_cons_zero]
  refine mix_quiet 18 rfl (by kernel_rfl) (by kernel_rfl) (by kernel_rfl) (by kernel_rfl) (by kernel_rfl) S0.out ?_
  intro K hK
  go_big_quiet_op
  first | go_big_quiet_on | (refine ⟨_, fun _ _ => rfl, ?_⟩; go_big_quiet_on)
  try simp only [Act.put, List.setIfInBounds_toArray, List.set_cons_succ, List.set_cons_zero]
  refine mix_quiet 19 rfl (by kernel_rfl) (by kernel_rfl) (by kernel_rfl) (by kernel_rfl) (by kernel_rfl) S0.out ?_
  intro K hK
  go_big_quiet_op
  first | go_big_quiet_on | (refine ⟨_, fun _ _ => rfl, ?_⟩; go_big_quiet_on)
  try simp only [Act.put, List.setIfInBounds_toArray, List.set_cons_succ, List.set_cons_zero]
  refine mix_quiet 20 rfl (by kernel_rfl) (by kernel_rfl) (by kernel_rfl) (by kernel_rfl) (by kernel_rfl) S0.out ?_
  intro K hK
  go_big_quiet_op
  first | go_big_quiet_on | (refine ⟨_, fun _ _ => rfl, ?_⟩; go_big_quiet_on)
  try simp only [Act.put, List.setIfInBounds_toArray, List.set_cons_succ, List.set_cons_zero]
  refine mix_val 21 (.int .i64 b4) rfl (by kernel_rfl) (by kernel_rfl) (by kernel_rfl) (by kernel_rfl) S0.out (fun u _ => by go_simp) ?_
  try simp only [Act.put, List.setIfInBounds_toArray, List.set_cons_succ, List.set_cons_zero]
  refine mix_quiet 22 rfl (by kernel_rfl) (by kernel_rfl) (by kernel_rfl) (by kernel_rfl) (by kernel_rfl) S0.out ?_
  intro K hK
  go_big_quiet_op
  first | go_big_quiet_on | (refine ⟨_, fun _ _ => rfl, ?_⟩; go_big_quiet_on)
  try simp only [Act.put, List.setIfInBounds_toArray, List.set_cons_succ, List.set_cons_zero]
  refine mix_quiet 23 rfl (by kernel_rfl) (by kernel_rfl) (by kernel_rfl) (by kernel_rfl) (by kernel_rfl) S0.out ?_
  intro K hK
  go_big_quiet_op
  first | go_big_quiet_on | (refine ⟨_, fun _ _ => rfl, ?_⟩; go_big_quiet_on)
  try simp only [Act.put, List.setIfInBounds_toArray, List.set_cons_succ, List.set_cons_zero]
  refine mix_quiet 24 rfl (by kernel_rfl) (by kernel_rfl) (by kernel_rfl) (by kernel_rfl) (by kernel_rfl) S0.out ?_
  intro K hK
  go_big_quiet_op
  first | go_big_quiet_on | (refine ⟨_, fun _ _ => rfl, ?_⟩; go_big_quiet_on)
  try simp only [Act.put, List.setIfInBounds_toArray, List.set_cons_succ, List.set_cons_zero]
  refine mix_val 25 (.int .i64 b5) rfl (by kernel_rfl) (by kernel_rfl) (by kernel_rfl) (by kernel_rfl) S0.out (fun u _ => by go_simp) ?_
  try simp only [Act.put, List.setIfInBounds_toArray, List.set_cons_succ, List.set_cons_zero]
  refine mix_quiet 26 rfl (by kernel_rfl) (by kernel_rfl) (by kernel_rfl) (by kernel_rfl) (by kernel_rfl) S0.out ?_
  intro K hK
  go_big_quiet_op
  first | go_big_quiet_on | (refine ⟨_, fun _ _ => rfl, ?_⟩; go_big_quiet_on)
  try simp only [Act.put, List.setIfInBounds_toArray, List.set_cons_succ, List.set_cons_zero]
  refine mix_quiet 27 rfl (by kernel_rfl) (by kernel_rfl) (by kernel_rfl) (by kernel_rfl) (by kernel_rfl) S0.out ?_
  intro K hK
  go_big_quiet_op
  first | go_big_quiet_on | (refine ⟨_, fun _ _ => rfl, ?_⟩; go_big_quiet_on)
  try simp only [Act.put, List.setIfInBounds_toArray, List.set_cons_succ, List.set_cons_zero]
  refine mix_quiet 28 rfl (by kernel_rfl) (by kernel_rfl) (by kernel_rfl) (by kernel_rfl) (by kernel_rfl) S0.out ?_
  intro K hK
  go_big_quiet_op
  first | go_big_quiet_on | (refine ⟨_, fun _ _ => rfl, ?_⟩; go_big_quiet_on)
  try simp only [Act.put, List.setIfInBounds_toArray, List.set_cons_succ, List.set_cons_zero]
  refine mix_quiet 29 rfl (by kernel_rfl) (by kernel_rfl) (by kernel_rfl) (by kernel_rfl) (by kernel_rfl) S0.out ?_
  intro K hK
  go_big_quiet_op
  first | go_big_quiet_on | (refine ⟨_, fun _ _ => rfl, ?_⟩; go_big_quiet_on)
  try simp only [Act.put, List.setIfInBounds_toArray, List.set_cons_succ, List.set_cons_zero]
  refine mix_val 30 (.int .i64 b6) rfl (by kernel_rfl) (by kernel_rfl) (by kernel_rfl) (by kernel_rfl) S0.out (fun u _ => by go_simp) ?_
  try simp only [Act.put, List.setIfInBounds_toArray, List.set_cons_succ, List.set_cons_zero]
  refine mix_quiet 31 rfl (by kernel_rfl) (by kernel_rfl) (by kernel_rfl) (by kernel_rfl) (by kernel_rfl) S0.out ?_
  intro K hK
  go_big_quiet_op
  first | go_big_quiet_on | (refine ⟨_, fun _ _ => rfl, ?_⟩; go_big_quiet_on)
  try simp only [Act.put, List.setIfInBounds_toArray, List.set_cons_succ, List.set_cons_zero]
  refine mix_quiet 32 rfl (by kernel_rfl) (by kernel_rfl) (by kernel_rfl) (by kernel_rfl) (by kernel_rfl) S0.out ?_
  intro K hK
  go_big_quiet_op
  first | go_big_quiet_on | (refine ⟨_, fun _ _ => rfl, ?_⟩; go_big_quiet_on)
  try simp only [Act.put, List.setIfInBounds_toArray, List.set_cons_succ, List.set_cons_zero]
  refine mix_one 33 rfl (by kernel_rfl) ?_
  intro R hR
  go_wp2_with fail
  refine ⟨S1.out, ?_⟩
  try simp only [Act.put, List.setIfInBounds_toArray, List.set_cons_succ, List.set_cons_zero]
  refine mix_one 34 rfl (by kernel_rfl) ?_
  intro R hR
  go_wp2_with fail
  refine ⟨S2.out, ?_⟩
  try simp only [Act.put, List.setIfInBounds_toArray, List.set_cons_succ, List.set_cons_zero]
  refine mix_done (by kernel_rfl) ?_
  have X5 := Lib.hid (B0.out.below L5.out)
  clear S0 S1 S2 L5 s0 s1 s2 s3 s4 s5 s6
  generalize World.drew _ = W5 at *
  have k0 : W5.cell? ⟨W.heap.size, 0, none⟩ = some (.int .i64 b0) := B5.out.cell 0 rfl
  have k1 : W5.cell? ⟨W.heap.size, 1, none⟩ = some (.int .i64 (b1 * 256 + b2)) := B5.out.cell 1 rfl
  have k2 : W5.cell? ⟨W.heap.size, 2, none⟩ = some (.int .i64 b3) := B5.out.cell 2 rfl
  have k3 : W5.cell? ⟨W.heap.size, 3, none⟩ = some (.int .i64 b4) := B5.out.cell 3 rfl
  have k4 : W5.cell? ⟨W.heap.size, 4, none⟩ = some (.int .i64 (b5 * 256 + b6)) := B5.out.cell 4 rfl
  go_wp2_with fail
  refine (K.out _ (HE.out.below X5.out.lo)).mono ?_
  rintro e w6 ⟨rfl, hb⟩
  have X6 := Lib.hid (X5.out.below hb)
  have B6 := Lib.hid (B5.out.below hb)
  clear hb X5 B5 k0 k1 k2 k3 k4
  have k0 : w6.cell? ⟨W.heap.size, 0, none⟩ = some (.int .i64 b0) := B6.out.cell 0 rfl
  have k1 : w6.cell? ⟨W.heap.size, 1, none⟩ = some (.int .i64 (b1 * 256 + b2)) := B6.out.cell 1 rfl
  have k2 : w6.cell? ⟨W.heap.size, 2, none⟩ = some (.int .i64 b3) := B6.out.cell 2 rfl
  have k3 : w6.cell? ⟨W.heap.size, 3, none⟩ = some (.int .i64 b4) := B6.out.cell 3 rfl
  have k4 : w6.cell? ⟨W.heap.size, 4, none⟩ = some (.int .i64 (b5 * 256 + b6)) := B6.out.cell 4 rfl
  have y0 : w6.cell? ⟨w.heap.size + 1, 0, none⟩ = some (.int .i64 0) := X6.out.cell2 0 rfl
  have y1 : w6.cell? ⟨w.heap.size + 1, 1, none⟩ = some (.int .i64 0) := X6.out.cell2 1 rfl
  have y2 : w6.cell? ⟨w.heap.size + 1, 2, none⟩ = some (.int .i64 0) := X6.out.cell2 2 rfl
  have y3 : w6.cell? ⟨w.heap.size + 1, 3, none⟩ = some (.int .i64 0) := X6.out.cell2 3 rfl
  have y4 : w6.cell? ⟨w.heap.size + 1, 4, none⟩ = some (.int .i64 0) := X6.out.cell2 4 rfl
  have yf := X6.out.froz2
  go_wp2_with fail
  have B7 := Lib.hid (((((X6.out.set2 0 (.int .i64 b0)).set2 1 (.int .i64 (b1 * 256 + b2))).set2 2 (.int .i64 b3)).set2 3 (.int .i64 b4)).set2 4 (.int .i64 (b5 * 256 + b6)))
  clear k0 k1 k2 k3 k4 y0 y1 y2 y3 y4 yf
  generalize World.setCell _ _ _ = W7 at *
  have p0 : W7.cell? ⟨w.heap.size + 1, 0, none⟩ = some (.int .i64 b0) := B7.out.cell2 0 rfl
  have p1 : W7.cell? ⟨w.heap.size + 1, 1, none⟩ = some (.int .i64 (b1 * 256 + b2)) := B7.out.cell2 1 rfl
  have p2 : W7.cell? ⟨w.heap.size + 1, 2, none⟩ = some (.int .i64 b3) := B7.out.cell2 2 rfl
  have p3 : W7.cell? ⟨w.heap.size + 1, 3, none⟩ = some (.int .i64 b4) := B7.out.cell2 3 rfl
  have p4 : W7.cell? ⟨w.heap.size + 1, 4, none⟩ = some (.int .i64 (b5 * 256 + b6)) := B7.out.cell2 4 rfl
  refine bodyPost_ret (v := .tuple #[outV (b0) ((b1 * 256 + b2)) (b3) (b4) ((b5 * 256 + b6)), .nilIface]) (by simp [results, Tryd.results27, go_sem, outV, p0, p1, p2, p3, p4]) rfl ⟨rfl, B7.out.lo⟩
set_option maxHeartbeats 16000000 in
theorem rdSevenB {E : Nat → Addr} (w : World) (he : Ers E w) (sq : Int) (x : Addr) (cap : Nat) (b0 b1 b2 b3 b4 b5 b6 : Int) (h0 : 0 ≤ b0 ∧ b0 < 256) (h1 : 0 ≤ b1 ∧ b1 < 256) (h2 : 0 ≤ b2 ∧ b2 < 256) (h3 : 0 ≤ b3 ∧ b3 < 256) (h4 : 0 ≤ b4 ∧ b4 < 256) (h5 : 0 ≤ b5 ∧ b5 < 256) (h6 : 0 ≤ b6 ∧ b6 < 256) (c0 : w.cell? x = some (.int .u8 b0)) (c1 : w.cell? ⟨x.block, x.off + 1, none⟩ = some (.int .u8 b1)) (c2 : w.cell? ⟨x.block, x.off + 2, none⟩ = some (.int .u8 b2)) (c3 : w.cell? ⟨x.block, x.off + 3, none⟩ = some (.int .u8 b3)) (c4 : w.cell? ⟨x.block, x.off + 4, none⟩ = some (.int .u8 b4)) (c5 : w.cell? ⟨x.block, x.off + 5, none⟩ = some (.int .u8 b5)) (c6 : w.cell? ⟨x.block, x.off + 6, none⟩ = some (.int .u8 b6)) (hg : goodO b0 (b1 * 256 + b2) b3 b4 (b5 * 256 + b6) = false) :
    Calls Tryd.prog 27 #[.agg #[.int .u8 96, .int .u8 sq, .slice (some x) 7 cap]] w fun r w' => r = .returned (.tuple #[outV 0 0 0 0 0, .iface 102 (.pointer (some (E 0)))]) ∧ Below w.heap.size w w' := by
  have HE := Lib.hid he
  have K := Lib.hid fun (w : World) (h : Ers E w) => checkC b0 (b1 * 256 + b2) b3 b4 (b5 * 256 + b6) w h
  rw [if_neg (by rw [hg]; simp)] at K
  clear he hg
  have v0 : IntKind.i64.wrap b0 = b0 := IntWalk.i64_in _ (by omega)
  have v1 : IntKind.i64.wrap b1 = b1 := IntWalk.i64_in _ (by omega)
  have v2 : IntKind.i64.wrap b2 = b2 := IntWalk.i64_in _ (by omega)
  have v3 : IntKind.i64.wrap b3 = b3 := IntWalk.i64_in _ (by omega)
  have v4 : IntKind.i64.wrap b4 = b4 := IntWalk.i64_in _ (by omega)
  have v5 : IntKind.i64.wrap b5 = b5 := IntWalk.i64_in _ (by omega)
  have v6 : IntKind.i64.wrap b6 = b6 := IntWalk.i64_in _ (by omega)
  have u1 : IntKind.i64.wrap (b1 * 256) = b1 * 256 := IntWalk.i64_in _ (by omega)
  have u5 : IntKind.i64.wrap (b5 * 256) = b5 * 256 := IntWalk.i64_in _ (by omega)
  have o1 := or_i64 b1 b2 h1.1 h1.2 h2.1 h2.2
  have o5 := or_i64 b5 b6 h5.1 h5.2 h6.1 h6.2
  go_enter Tryd.func27, Tryd.ntmps27
  go_upto_region 1 with fail
  have B0 := Lib.hid (Bx2.new w #[.int .u8 96, .int .u8 sq, .slice (some x) 7 cap] 24 #[.int .i64 0, .int .i64 0, .int .i64 0, .int .i64 0, .int .i64 0] 49)
  generalize World.alloc (World.alloc w _) _ = W at *
  have x0 : W.cell? ⟨w.heap.size, 0, none⟩ = some (.int .u8 96) := B0.out.cell1 0 rfl
  have x2 : W.cell? ⟨w.heap.size, 2, none⟩ = some (.slice (some x) 7 cap) := B0.out.cell1 2 rfl
  have d0 := below_cell B0.out.lo c0
  have d1 := below_cell B0.out.lo c1
  have d2 := below_cell B0.out.lo c2
  have d3 := below_cell B0.out.lo c3
  have d4 := below_cell B0.out.lo c4
  have d5 := below_cell B0.out.lo c5
  have d6 := below_cell B0.out.lo c6
  clear c0 h0 c1 h1 c2 h2 c3 h3 c4 h4 c5 h5 c6 h6
  go_upto_region 8 with fail
  have S0 := Lib.hid (show ∃ d, W.drew = reach W.heap.size W d from ⟨_, (reach_of (Below.refl W.heap.size W).drew).symm⟩)
  have s0 := fun d => below_cell (reach_below W.heap.size W d) d0
  have s1 := fun d => below_cell (reach_below W.heap.size W d) d1
  have s2 := fun d => below_cell (reach_below W.heap.size W d) d2
  have s3 := fun d => below_cell (reach_below W.heap.size W d) d3
  have s4 := fun d => below_cell (reach_below W.heap.size W d) d4
  have s5 := fun d => below_cell (reach_below W.heap.size W d) d5
  have s6 := fun d => below_cell (reach_below W.heap.size W d) d6
  clear x0 x2 d0 d1 d2 d3 d4 d5 d6
  have DA := (Below.refl W.heap.size W).drew.alloc (Nat.le_refl _) (.cells #[.int .i64 0, .int .i64 0, .int .i64 0, .int .i64 0, .int .i64 0] 49)
  have S1 := Lib.hid (show ∃ d, W.drew.alloc (.cells #[.int .i64 0, .int .i64 0, .int .i64 0, .int .i64 0, .int .i64 0] 49) = reach W.heap.size W d from ⟨_, (reach_of DA).symm⟩)
  have LB := (Below.refl W.heap.size W).alloc (Nat.le_refl _) (.cells #[.int .i64 b0, .int .i64 (b1 * 256 + b2), .int .i64 b3, .int .i64 b4, .int .i64 (b5 * 256 + b6)] 49)
  have L5 := Lib.hid LB.drew
  have S2 := Lib.hid (show ∃ d, (W.alloc (.cells #[.int .i64 b0, .int .i64 (b1 * 256 + b2), .int .i64 b3, .int .i64 b4, .int .i64 (b5 * 256 + b6)] 49)).drew = reach W.heap.size W d from ⟨_, (reach_of L5.out).symm⟩)
  have BN := Bx.new W #[.int .i64 b0, .int .i64 (b1 * 256 + b2), .int .i64 b3, .int .i64 b4, .int .i64 (b5 * 256 + b6)] 49
  have B5 := Lib.hid (show Bx W (W.alloc (.cells #[.int .i64 b0, .int .i64 (b1 * 256 + b2), .int .i64 b3, .int .i64 b4, .int .i64 (b5 * 256 + b6)] 49)).drew _ 49 from ⟨BN.row, BN.lo.drew⟩)
  clear DA BN LB
  refine wp_region_mix (fun w' => ∃ d, w' = reach W.heap.size W d) (by kernel_rfl) ?_
  change wpAnyH _ _ _ _ _ 35 (Array.replicate 35 false) _ _
  refine mix_quiet 0 rfl (by kernel_rfl) (by kernel_rfl) (by kernel_rfl) (by kernel_rfl) (by kernel_rfl) S0.out ?_
  intro K hK
  go_big_quiet_op
  first | go_big_quiet_on | (refine ⟨_, fun _ _ => rfl, ?_⟩; go_big_quiet_on)
  try simp only [Act.put, List.setIfInBounds_toArray, List.set_cons_succ, List.set_cons_zero]
  refine mix_quiet 1 rfl (by kernel_rfl) (by kernel_rfl) (by kernel_rfl) (by kernel_rfl) (by kernel_rfl) S0.out ?_
  intro K hK
  go_big_quiet_op
  first | go_big_quiet_on | (refine ⟨_, fun _ _ => rfl, ?_⟩; go_big_quiet_on)
  try simp only [Act.put, List.setIfInBounds_toArray, List.set_cons_succ, List.set_cons_zero]
  refine mix_quiet 2 rfl (by kernel_rfl) (by kernel_rfl) (by kernel_rfl) (by kernel_rfl) (by kernel_rfl) S0.out ?_
  intro K hK
  go_big_quiet_op
  first | go_big_quiet_on | (refine ⟨_, fun _ _ => rfl, ?_⟩; go_big_quiet_on)
  try simp only [Act.put, List.setIfInBounds_toArray, List.set_cons_succ, List.set_cons_zero]
  refine mix_val 3 (.int .i64 b0) rfl (by kernel_rfl) (by kernel_rfl) (by kernel_rfl) (by kernel_rfl) S0.out (fun u _ => by go_simp) ?_
  try simp only [Act.put, List.setIfInBounds_toArray, List.set_cons_succ, List.set_cons_zero]
  refine mix_quiet 4 rfl (by kernel_rfl) (by kernel_rfl) (by kernel_rfl) (by kernel_rfl) (by kernel_rfl) S0.out ?_
  intro K hK
  go_big_quiet_op
  first | go_big_quiet_on | (refine ⟨_, fun _ _ => rfl, ?_⟩; go_big_quiet_on)
  try simp only [Act.put, List.setIfInBounds_toArray, List.set_cons_succ, List.set_cons_zero]
  refine mix_quiet 5 rfl (by kernel_rfl) (by kernel_rfl) (by kernel_rfl) (by kernel_rfl) (by kernel_rfl) S0.out ?_
  intro K hK
  go_big_quiet_op
  first | go_big_quiet_on | (refine ⟨_, fun _ _ => rfl, ?_⟩; go_big_quiet_on)
  try simp only [Act.put, List.setIfInBounds_toArray, List.set_cons_succ, List.set_cons_zero]
  refine mix_quiet 6 rfl (by kernel_rfl) (by kernel_rfl) (by kernel_rfl) (by kernel_rfl) (by kernel_rfl) S0.out ?_
  intro K hK
  go_big_quiet_op
  first | go_big_quiet_on | (refine ⟨_, fun _ _ => rfl, ?_⟩; go_big_quiet_on)
  try simp only [Act.put, List.setIfInBounds_toArray, List.set_cons_succ, List.set_cons_zero]
  refine mix_val 7 (.int .i64 b1) rfl (by kernel_rfl) (by kernel_rfl) (by kernel_rfl) (by kernel_rfl) S0.out (fun u _ => by go_simp) ?_
  try simp only [Act.put, List.setIfInBounds_toArray, List.set_cons_succ, List.set_cons_zero]
  refine mix_quiet 8 rfl (by kernel_rfl) (by kernel_rfl) (by kernel_rfl) (by kernel_rfl) (by kernel_rfl) S0.out ?_
  intro K hK
  go_big_quiet_op
  first | go_big_quiet_on | (refine ⟨_, fun _ _ => rfl, ?_⟩; go_big_quiet_on)
  try simp only [Act.put, List.setIfInBounds_toArray, List.set_cons_succ, List.set_cons_zero]
  refine mix_quiet 9 rfl (by kernel_rfl) (by kernel_rfl) (by kernel_rfl) (by kernel_rfl) (by kernel_rfl) S0.out ?_
  intro K hK
  go_big_quiet_op
  first | go_big_quiet_on | (refine ⟨_, fun _ _ => rfl, ?_⟩; go_big_quiet_on)
  try simp only [Act.put, List.setIfInBounds_toArray, List.set_cons_succ, List.set_cons_zero]
  refine mix_quiet 10 rfl (by kernel_rfl) (by kernel_rfl) (by kernel_rfl) (by kernel_rfl) (by kernel_rfl) S0.out ?_
  intro K hK
  go_big_quiet_op
  first | go_big_quiet_on | (refine ⟨_, fun _ _ => rfl, ?_⟩; go_big_quiet_on)
  try simp only [Act.put, List.setIfInBounds_toArray, List.set_cons_succ, List.set_cons_zero]
  refine mix_quiet 11 rfl (by kernel_rfl) (by kernel_rfl) (by kernel_rfl) (by kernel_rfl) (by kernel_rfl) S0.out ?_
  intro K hK
  go_big_quiet_op
  first | go_big_quiet_on | (refine ⟨_, fun _ _ => rfl, ?_⟩; go_big_quiet_on)
  try simp only [Act.put, List.setIfInBounds_toArray, List.set_cons_succ, List.set_cons_zero]
  refine mix_val 12 (.int .i64 b2) rfl (by kernel_rfl) (by kernel_rfl) (by kernel_rfl) (by kernel_rfl) S0.out (fun u _ => by go_simp) ?_
  try simp only [Act.put, List.setIfInBounds_toArray, List.set_cons_succ, List.set_cons_zero]
  refine mix_quiet 13 rfl (by kernel_rfl) (by kernel_rfl) (by kernel_rfl) (by kernel_rfl) (by kernel_rfl) S0.out ?_
  intro K hK
  go_big_quiet_op
  first | go_big_quiet_on | (refine ⟨_, fun _ _ => rfl, ?_⟩; go_big_quiet_on)
  try simp only [Act.put, List.setIfInBounds_toArray, List.set_cons_succ, List.set_cons_zero]
  refine mix_quiet 14 rfl (by kernel_rfl) (by kernel_rfl) (by kernel_rfl) (by kernel_rfl) (by kernel_rfl) S0.out ?_
  intro K hK
  go_big_quiet_op
  first | go_big_quiet_on | (refine ⟨_, fun _ _ => rfl, ?_⟩; go_big_quiet_on)
  try simp only [Act.put, List.setIfInBounds_toArray, List.set_cons_succ, List.set_cons_zero]
  refine mix_quiet 15 rfl (by kernel_rfl) (by kernel_rfl) (by kernel_rfl) (by kernel_rfl) (by kernel_rfl) S0.out ?_
  intro K hK
  go_big_quiet_op
  first | go_big_quiet_on | (refine ⟨_, fun _ _ => rfl, ?_⟩; go_big_quiet_on)
  try simp only [Act.put, List.setIfInBounds_toArray, List.set_cons_succ, List.set_cons_zero]
  refine mix_quiet 16 rfl (by kernel_rfl) (by kernel_rfl) (by kernel_rfl) (by kernel_rfl) (by kernel_rfl) S0.out ?_
  intro K hK
  go_big_quiet_op
  first | go_big_quiet_on | (refine ⟨_, fun _ _ => rfl, ?_⟩; go_big_quiet_on)
  try simp only [Act.put, List.setIfInBounds_toArray, List.set_cons_succ, List.set_cons_zero]
  refine mix_val 17 (.int .i64 b3) rfl (by kernel_rfl) (by kernel_rfl) (by kernel_rfl) (by kernel_rfl) S0.out (fun u _ => by go_simp) ?_
  try simp only [Act.put, List.setIfInBounds_toArray, List.set_cons_succ, List.set_cons_zero]
  refine mix_quiet 18 rfl (by kernel_rfl) (by kernel_rfl) (by kernel_rfl) (by kernel_rfl) (by kernel_rfl) S0.out ?_
  intro K hK
  go_big_quiet_op
  first | go_big_quiet_on | (refine ⟨_, fun _ _ => rfl, ?_⟩; go_big_quiet_on)
  try simp only [Act.put, List.setIfInBounds_toArray, List.set_cons_succ, List.set_cons_zero]
  refine mix_quiet 19 rfl (by kernel_rfl) (by kernel_rfl) (by kernel_rfl) (by kernel_rfl) (by kernel_rfl) S0.out ?_
  intro K hK
  go_big_quiet_op
  first | go_big_quiet_on | (refine ⟨_, fun _ _ => rfl, ?_⟩; go_big_quiet_on)
  try simp only [Act.put, List.setIfInBounds_toArray, List.set_cons_succ, List.set_cons_zero]
  refine mix_quiet 20 rfl (by kernel_rfl) (by kernel_rfl) (by kernel_rfl) (by kernel_rfl) (by kernel_rfl) S0.out ?_
  intro K hK
  go_big_quiet_op
  first | go_big_quiet_on | (refine ⟨_, fun _ _ => rfl, ?_⟩; go_big_quiet_on)
  try simp only [Act.put, List.setIfInBounds_toArray, List.set_cons_succ, List.set_cons_zero]
  refine mix_val 21 (.int .i64 b4) rfl (by kernel_rfl) (by kernel_rfl) (by kernel_rfl) (by kernel_rfl) S0.out (fun u _ => by go_simp) ?_
  try simp only [Act.put, List.setIfInBounds_toArray, List.set_cons_succ, List.set_cons_zero]
  refine mix_quiet 22 rfl (by kernel_rfl) (by kernel_rfl) (by kernel_rfl) (by kernel_rfl) (by kernel_rfl) S0.out ?_
  intro K hK
  go_big_quiet_op
  first | go_big_quiet_on | (refine ⟨_, fun _ _ => rfl, ?_⟩; go_big_quiet_on)
  try simp only [Act.put, List.setIfInBounds_toArray, List.set_cons_succ, List.set_cons_zero]
  refine mix_quiet 23 rfl (by kernel_rfl) (by kernel_rfl) (by kernel_rfl) (by kernel_rfl) (by kernel_rfl) S0.out ?_
  intro K hK
  go_big_quiet_op
  first | go_big_quiet_on | (refine ⟨_, fun _ _ => rfl, ?_⟩; go_big_quiet_on)
  try simp only [Act.put, List.setIfInBounds_toArray, List.set_cons_succ, List.set_cons_zero]
  refine mix_quiet 24 rfl (by kernel_rfl) (by kernel_rfl) (by kernel_rfl) (by kernel_rfl) (by kernel_rfl) S0.out ?_
  intro K hK
  go_big_quiet_op
  first | go_big_quiet_on | (refine ⟨_, fun _ _ => rfl, ?_⟩; go_big_quiet_on)
  try simp only [Act.put, List.setIfInBounds_toArray, List.set_cons_succ, List.set_cons_zero]
  refine mix_val 25 (.int .i64 b5) rfl (by kernel_rfl) (by kernel_rfl) (by kernel_rfl) (by kernel_rfl) S0.out (fun u _ => by go_simp) ?_
  try simp only [Act.put, List.setIfInBounds_toArray, List.set_cons_succ, List.set_cons_zero]
  refine mix_quiet 26 rfl (by kernel_rfl) (by kernel_rfl) (by kernel_rfl) (by kernel_rfl) (by kernel_rfl) S0.out ?_
  intro K hK
  go_big_quiet_op
  first | go_big_quiet_on | (refine ⟨_, fun _ _ => rfl, ?_⟩; go_big_quiet_on)
  try simp only [Act.put, List.setIfInBounds_toArray, List.set_cons_succ, List.set_cons_zero]
  refine mix_quiet 27 rfl (by kernel_rfl) (by kernel_rfl) (by kernel_rfl) (by kernel_rfl) (by kernel_rfl) S0.out ?_
  intro K hK
  go_big_quiet_op
  first | go_big_quiet_on | (refine ⟨_, fun _ _ => rfl, ?_⟩; go_big_quiet_on)
  try simp only [Act.put, List.setIfInBounds_toArray, List.set_cons_succ, List.set_cons_zero]
  refine mix_quiet 28 rfl (by kernel_rfl) (by kernel_rfl) (by kernel_rfl) (by kernel_rfl) (by kernel_rfl) S0.out ?_
  intro K hK
  go_big_quiet_op
  first | go_big_quiet_on | (refine ⟨_, fun _ _ => rfl, ?_⟩; go_big_quiet_on)
  try simp only [Act.put, List.setIfInBounds_toArray, List.set_cons_succ, List.set_cons_zero]
  refine mix_quiet 29 rfl (by kernel_rfl) (by kernel_rfl) (by kernel_rfl) (by kernel_rfl) (by kernel_rfl) S0.out ?_
  intro K hK
  go_big_quiet_op
  first | go_big_quiet_on | (refine ⟨_, fun _ _ => rfl, ?_⟩; go_big_quiet_on)
  try simp only [Act.put, List.setIfInBounds_toArray, List.set_cons_succ, List.set_cons_zero]
  refine mix_val 30 (.int .i64 b6) rfl (by kernel_rfl) (by kernel_rfl) (by kernel_rfl) (by kernel_rfl) S0.out (fun u _ => by go_simp) ?_
  try simp only [Act.put, List.setIfInBounds_toArray, List.set_cons_succ, List.set_cons_zero]
  refine mix_quiet 31 rfl (by kernel_rfl) (by kernel_rfl) (by kernel_rfl) (by kernel_rfl) (by kernel_rfl) S0.out ?_
  intro K hK
  go_big_quiet_op
  first | go_big_quiet_on | (refine ⟨_, fun _ _ => rfl, ?_⟩; go_big_quiet_on)
  try simp only [Act.put, List.setIfInBounds_toArray, List.set_cons_succ, List.set_cons_zero]
  refine mix_quiet 32 rfl (by kernel_rfl) (by kernel_rfl) (by kernel_rfl) (by kernel_rfl) (by kernel_rfl) S0.out ?_
  intro K hK
  go_big_quiet_op
  first | go_big_quiet_on | (refine ⟨_, fun _ _ => rfl, ?_⟩; go_big_quiet_on)
  try simp only [Act.put, List.setIfInBounds_toArray, List.set_cons_succ, List.set_cons_zero]
  refine mix_one 33 rfl (by kernel_rfl) ?_
  intro R hR
  go_wp2_with fail
  refine ⟨S1.out, ?_⟩
  try simp only [Act.put, List.setIfInBounds_toArray, List.set_cons_succ, List.set_cons_zero]
  refine mix_one 34 rfl (by kernel_rfl) ?_
  intro R hR
  go_wp2_with fail
  refine ⟨S2.out, ?_⟩
  try simp only [Act.put, List.setIfInBounds_toArray, List.set_cons_succ, List.set_cons_zero]
  refine mix_done (by kernel_rfl) ?_
  have X5 := Lib.hid (B0.out.below L5.out)
  clear S0 S1 S2 L5 s0 s1 s2 s3 s4 s5 s6
  generalize World.drew _ = W5 at *
  have k0 : W5.cell? ⟨W.heap.size, 0, none⟩ = some (.int .i64 b0) := B5.out.cell 0 rfl
  have k1 : W5.cell? ⟨W.heap.size, 1, none⟩ = some (.int .i64 (b1 * 256 + b2)) := B5.out.cell 1 rfl
  have k2 : W5.cell? ⟨W.heap.size, 2, none⟩ = some (.int .i64 b3) := B5.out.cell 2 rfl
  have k3 : W5.cell? ⟨W.heap.size, 3, none⟩ = some (.int .i64 b4) := B5.out.cell 3 rfl
  have k4 : W5.cell? ⟨W.heap.size, 4, none⟩ = some (.int .i64 (b5 * 256 + b6)) := B5.out.cell 4 rfl
  go_wp2_with fail
  refine (K.out _ (HE.out.below X5.out.lo)).mono ?_
  rintro e w6 ⟨rfl, hb⟩
  have X6 := Lib.hid (X5.out.below hb)
  have B6 := Lib.hid (B5.out.below hb)
  clear hb X5 B5 k0 k1 k2 k3 k4
  have y0 : w6.cell? ⟨w.heap.size + 1, 0, none⟩ = some (.int .i64 0) := X6.out.cell2 0 rfl
  have y1 : w6.cell? ⟨w.heap.size + 1, 1, none⟩ = some (.int .i64 0) := X6.out.cell2 1 rfl
  have y2 : w6.cell? ⟨w.heap.size + 1, 2, none⟩ = some (.int .i64 0) := X6.out.cell2 2 rfl
  have y3 : w6.cell? ⟨w.heap.size + 1, 3, none⟩ = some (.int .i64 0) := X6.out.cell2 3 rfl
  have y4 : w6.cell? ⟨w.heap.size + 1, 4, none⟩ = some (.int .i64 0) := X6.out.cell2 4 rfl
  have yf := X6.out.froz2
  go_wp2_with fail
  have B7 := Lib.hid (((((X6.out.set2 0 (.int .i64 0)).set2 1 (.int .i64 0)).set2 2 (.int .i64 0)).set2 3 (.int .i64 0)).set2 4 (.int .i64 0))
  clear y0 y1 y2 y3 y4 yf
  generalize World.setCell _ _ _ = W7 at *
  have p0 : W7.cell? ⟨w.heap.size + 1, 0, none⟩ = some (.int .i64 0) := B7.out.cell2 0 rfl
  have p1 : W7.cell? ⟨w.heap.size + 1, 1, none⟩ = some (.int .i64 0) := B7.out.cell2 1 rfl
  have p2 : W7.cell? ⟨w.heap.size + 1, 2, none⟩ = some (.int .i64 0) := B7.out.cell2 2 rfl
  have p3 : W7.cell? ⟨w.heap.size + 1, 3, none⟩ = some (.int .i64 0) := B7.out.cell2 3 rfl
  have p4 : W7.cell? ⟨w.heap.size + 1, 4, none⟩ = some (.int .i64 0) := B7.out.cell2 4 rfl
  refine bodyPost_ret (v := .tuple #[outV (0) (0) (0) (0) (0), .iface 102 (.pointer (some (E 0)))]) (by simp [results, Tryd.results27, go_sem, outV, p0, p1, p2, p3, p4]) rfl ⟨rfl, B7.out.lo⟩
end Go.Proofs.YtiiomiekjlggfaaDoor
