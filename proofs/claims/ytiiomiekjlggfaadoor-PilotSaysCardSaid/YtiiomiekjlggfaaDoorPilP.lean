/- A command that is one, as a frame. Conditions: it is one. -/
import Derived.Test.YtiiomiekjlggfaaDoorPilR
namespace Go.Proofs.YtiiomiekjlggfaaDoor
open Go.RowKit
set_option linter.unusedVariables false
set_option maxRecDepth 20000
set_option maxHeartbeats 4000000 in
theorem putGood (c d s : Int) (hk : kn c d = true) (w : World) :
    Calls Tryd.prog 14 #[.int .i64 c, .int .i64 d, .int .u8 s] w fun e w' => ∃ B, e = .returned (.tuple #[.agg #[.int .u8 80, .int .u8 s, .slice (some ⟨B, 0, none⟩) 2 2], .nilIface]) ∧ w'.heap[B]? = some (.cells #[.int .u8 c, .int .u8 d] 5 (0, 0)) ∧ Below w.heap.size w w' := by
  have K := Lib.hid fun (w : World) => knownC c d w
  rw [hk] at K
  have hk2 : (1 ≤ c ∧ c ≤ 5) ∧ (d = 0 ∨ d = 1) := by
    unfold kn at hk
    simpa using hk
  clear hk
  have v0 : IntKind.u8.wrap c = c := by rw [IntKind.wrap_u8]; omega
  have v1 : IntKind.u8.wrap d = d := by rw [IntKind.wrap_u8]; omega
  go_enter Tryd.func14, Tryd.ntmps14
  go_wp2_with fail
  have B0 := Lib.hid (Bx.new w #[.int .u8 0, .int .u8 0, .slice none 0 0] 24)
  generalize World.alloc w _ = W at *
  refine (K.out _).mono ?_
  rintro e w1 ⟨rfl, rfl⟩
  have hw := B0.out.size
  have x0 : W.cell? ⟨w.heap.size, 0, none⟩ = some (.int .u8 0) := B0.out.cell 0 rfl
  have x1 : W.cell? ⟨w.heap.size, 1, none⟩ = some (.int .u8 0) := B0.out.cell 1 rfl
  have x2 : W.cell? ⟨w.heap.size, 2, none⟩ = some (.slice none 0 0) := B0.out.cell 2 rfl
  have xf := B0.out.froz
  go_wp2_with fail
  have B6 := Lib.hid (((B0.out.set 0 (.int .u8 80)).set 1 (.int .u8 s)).set 2 (.slice (some ⟨W.heap.size, 0, none⟩) 2 2))
  have hsz : (((W.setCell ⟨w.heap.size, 0, none⟩ (.int .u8 80)).setCell ⟨w.heap.size, 1, none⟩ (.int .u8 s)).setCell ⟨w.heap.size, 2, none⟩ (.slice (some ⟨W.heap.size, 0, none⟩) 2 2)).heap.size = W.heap.size := by simp
  clear x0 x1 x2 xf
  generalize World.setCell (World.setCell (World.setCell W _ _) _ _) _ _ = W3 at *
  have R3 := Lib.hid (show (W3.alloc (.cells #[.int .u8 c, .int .u8 d] 5)).heap[W.heap.size]? = some (.cells #[.int .u8 c, .int .u8 d] 5 (0, 0)) by rw [← hsz]; exact heap_alloc_new _ _)
  have B7 := Lib.hid (B6.out.below ((Below.refl _ _).alloc (Nat.le_refl _) (.cells #[.int .u8 c, .int .u8 d] 5)))
  generalize World.alloc W3 _ = W4 at *
  have q0 : W4.cell? ⟨w.heap.size, 0, none⟩ = some (.int .u8 80) := B7.out.cell 0 rfl
  have q1 : W4.cell? ⟨w.heap.size, 1, none⟩ = some (.int .u8 s) := B7.out.cell 1 rfl
  have q2 : W4.cell? ⟨w.heap.size, 2, none⟩ = some (.slice (some ⟨W.heap.size, 0, none⟩) 2 2) := B7.out.cell 2 rfl
  refine bodyPost_ret (v := .tuple #[.agg #[.int .u8 80, .int .u8 s, .slice (some ⟨W.heap.size, 0, none⟩) 2 2], .nilIface]) (by simp [results, Tryd.results14, go_sem, q0, q1, q2]) rfl ⟨W.heap.size, rfl, R3.out, B7.out.lo⟩
end Go.Proofs.YtiiomiekjlggfaaDoor
