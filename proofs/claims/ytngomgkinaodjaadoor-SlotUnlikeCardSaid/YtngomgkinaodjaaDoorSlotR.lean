/- The examples of chapter 11; whether records are the same. Conditions: the seven errors lie apart. -/
import Derived.Test.YtngomgkinaodjaaDoorSlotB
import Derived.Test.YtngomgkinaodjaaDoorIsC
import Derived.Test.YtngomgkinaodjaaDoorMix
namespace Go.Proofs.YtngomgkinaodjaaDoor
open Go Go.RowKit
set_option linter.unusedVariables false
set_option maxRecDepth 20000
theorem bx_drew {w wr : World} {cs : Array Value} {t : TypeId} (h : Bx w wr cs t) : Bx w wr.drew cs t := ⟨h.row, h.lo.drew⟩
set_option maxHeartbeats 8000000 in
theorem readS {E : Nat → Addr} (a : Option Addr) (n cap : Nat) (hn : n < 44) (w : World) (he : Ers E w) :
    Calls Tryd.prog 27 #[.slice a n cap] w fun r w' => r = .returned (.tuple #[.agg #[.int .u32 0, .int .i64 0, .int .u32 0, .int .i64 0, .int .i64 0, .int .i64 0, .int .i64 0], .iface 97 (.pointer (some (E 2)))]) ∧ Below w.heap.size w w' := by
  have HE := Lib.hid he
  clear he
  have g1 : decide ((n : Int) < 44) = true := decide_eq_true (by omega)
  go_enter Tryd.func27, Tryd.ntmps27
  go_upto_region 2 with fail
  have B0 := Lib.hid (Bx.new w #[.int .u32 0, .int .i64 0, .int .u32 0, .int .i64 0, .int .i64 0, .int .i64 0, .int .i64 0] 51)
  generalize World.alloc w _ = W at *
  have GE := Lib.hid fun d => (HE.out.below (B0.out.lo.trans (reach_below w.heap.size W d))).g2
  have q0 := GE.out
  unfold errV at q0
  have DW := (Below.refl w.heap.size W).drew
  have S0 := Lib.hid (show ∃ d, W.drew = reach w.heap.size W d from ⟨_, (reach_of DW).symm⟩)
  have S1 := Lib.hid (show ∃ d, (World.setCell (World.setCell (World.setCell (World.setCell (World.setCell (World.setCell (World.setCell W ⟨w.heap.size, 0, none⟩ (.int .u32 0)) ⟨w.heap.size, 1, none⟩ (.int .i64 0)) ⟨w.heap.size, 2, none⟩ (.int .u32 0)) ⟨w.heap.size, 3, none⟩ (.int .i64 0)) ⟨w.heap.size, 4, none⟩ (.int .i64 0)) ⟨w.heap.size, 5, none⟩ (.int .i64 0)) ⟨w.heap.size, 6, none⟩ (.int .i64 0)).drew = reach w.heap.size W d from ⟨_, (reach_of ((((((((Below.refl w.heap.size W).setCell (p := ⟨w.heap.size, 0, none⟩) (Nat.le_refl _) (.int .u32 0)).setCell (p := ⟨w.heap.size, 1, none⟩) (Nat.le_refl _) (.int .i64 0)).setCell (p := ⟨w.heap.size, 2, none⟩) (Nat.le_refl _) (.int .u32 0)).setCell (p := ⟨w.heap.size, 3, none⟩) (Nat.le_refl _) (.int .i64 0)).setCell (p := ⟨w.heap.size, 4, none⟩) (Nat.le_refl _) (.int .i64 0)).setCell (p := ⟨w.heap.size, 5, none⟩) (Nat.le_refl _) (.int .i64 0)).setCell (p := ⟨w.heap.size, 6, none⟩) (Nat.le_refl _) (.int .i64 0)).drew).symm⟩)
  clear DW
  have y0 : W.cell? ⟨w.heap.size, 0, none⟩ = some (.int .u32 0) := B0.out.cell 0 rfl
  have y1 : W.cell? ⟨w.heap.size, 1, none⟩ = some (.int .i64 0) := B0.out.cell 1 rfl
  have y2 : W.cell? ⟨w.heap.size, 2, none⟩ = some (.int .u32 0) := B0.out.cell 2 rfl
  have y3 : W.cell? ⟨w.heap.size, 3, none⟩ = some (.int .i64 0) := B0.out.cell 3 rfl
  have y4 : W.cell? ⟨w.heap.size, 4, none⟩ = some (.int .i64 0) := B0.out.cell 4 rfl
  have y5 : W.cell? ⟨w.heap.size, 5, none⟩ = some (.int .i64 0) := B0.out.cell 5 rfl
  have y6 : W.cell? ⟨w.heap.size, 6, none⟩ = some (.int .i64 0) := B0.out.cell 6 rfl
  have yf := B0.out.froz
  refine wp_region_mix (fun w' => ∃ d, w' = reach w.heap.size W d) (by kernel_rfl) ?_
  change wpAnyH _ _ _ _ _ 4 (Array.replicate 4 false) _ _
  refine mix_quiet 0 rfl (by kernel_rfl) (by kernel_rfl) (by kernel_rfl) (by kernel_rfl) (by kernel_rfl) S0.out ?_
  intro K hK
  go_big_quiet_op
  first | go_big_quiet_on | (refine ⟨_, fun _ _ => rfl, ?_⟩; go_big_quiet_on)
  try simp only [Act.put, List.setIfInBounds_toArray, List.set_cons_succ, List.set_cons_zero]
  refine mix_quiet 1 rfl (by kernel_rfl) (by kernel_rfl) (by kernel_rfl) (by kernel_rfl) (by kernel_rfl) S0.out ?_
  intro K hK
  go_big_quiet_op
  first | go_big_quiet_on | (refine ⟨_, fun _ _ => rfl, ?_⟩; go_big_quiet_on)
  try simp only [Act.put, List.setIfInBounds_toArray, List.set_cons_succ, List.set_cons_zero]
  refine mix_one 2 rfl (by kernel_rfl) ?_
  intro R hR
  go_wp2_with fail
  refine ⟨S1.out, ?_⟩
  try simp only [Act.put, List.setIfInBounds_toArray, List.set_cons_succ, List.set_cons_zero]
  refine mix_quiet 3 rfl (by kernel_rfl) (by kernel_rfl) (by kernel_rfl) (by kernel_rfl) (by kernel_rfl) S1.out ?_
  intro K hK
  go_big_quiet_op
  first | go_big_quiet_on | (refine ⟨_, fun _ _ => rfl, ?_⟩; go_big_quiet_on)
  try simp only [Act.put, List.setIfInBounds_toArray, List.set_cons_succ, List.set_cons_zero]
  refine mix_done (by kernel_rfl) ?_
  have B6 := Lib.hid (((((((B0.out.set 0 (.int .u32 0)).set 1 (.int .i64 0)).set 2 (.int .u32 0)).set 3 (.int .i64 0)).set 4 (.int .i64 0)).set 5 (.int .i64 0)).set 6 (.int .i64 0))
  have B7 := Lib.hid (bx_drew B6.out)
  clear y0 y1 y2 y3 y4 y5 y6 yf q0 S0 S1 B0 B6
  generalize World.drew _ = W3 at *
  go_wp2_with fail
  have p0 : W3.cell? ⟨w.heap.size, 0, none⟩ = some (.int .u32 0) := B7.out.cell 0 rfl
  have p1 : W3.cell? ⟨w.heap.size, 1, none⟩ = some (.int .i64 0) := B7.out.cell 1 rfl
  have p2 : W3.cell? ⟨w.heap.size, 2, none⟩ = some (.int .u32 0) := B7.out.cell 2 rfl
  have p3 : W3.cell? ⟨w.heap.size, 3, none⟩ = some (.int .i64 0) := B7.out.cell 3 rfl
  have p4 : W3.cell? ⟨w.heap.size, 4, none⟩ = some (.int .i64 0) := B7.out.cell 4 rfl
  have p5 : W3.cell? ⟨w.heap.size, 5, none⟩ = some (.int .i64 0) := B7.out.cell 5 rfl
  have p6 : W3.cell? ⟨w.heap.size, 6, none⟩ = some (.int .i64 0) := B7.out.cell 6 rfl
  refine bodyPost_ret (v := .tuple #[.agg #[.int .u32 0, .int .i64 0, .int .u32 0, .int .i64 0, .int .i64 0, .int .i64 0, .int .i64 0], .iface 97 (.pointer (some (E 2)))]) (by simp [results, Tryd.results27, go_sem, p0, p1, p2, p3, p4, p5, p6]) rfl ⟨rfl, B7.out.lo⟩
end Go.Proofs.YtngomgkinaodjaaDoor
