/- The chapter's examples of commands. No condition. -/
import Derived.Test.YtiiomiekjlggfaaDoorPil
namespace Go.Proofs.YtiiomiekjlggfaaDoor
open Go.RowKit
set_option linter.unusedVariables false
set_option maxHeartbeats 4000000 in
theorem pilFirst (w : World) : Calls Tryd.prog 13 #[] w fun e w' => e = .returned (.bool true) ∧ Below w.heap.size w w' := by
  go_enter Tryd.func13, Tryd.ntmps13
  go_wp2_with fail
  have P0 := Lib.hid (show Pl (w.alloc (.cells #[.bool false, .bool false, .bool false, .bool false, .int .i64 0] 40)) w.heap.size ⟨false, false, false, false, 0⟩ from heap_alloc_new _ _)
  have B0 := Lib.hid ((Below.refl _ w).alloc (Nat.le_refl _) (.cells #[.bool false, .bool false, .bool false, .bool false, .int .i64 0] 40))
  generalize World.alloc w _ = W at *
  refine (applyC w.heap.size _ 3 0 _ P0.out (by simp)).mono ?_
  rintro e w1 ⟨rfl, h1, o1⟩
  have P1 := Lib.hid h1
  have B1 := Lib.hid (B0.out.trans (o1.below (Nat.le_refl _) B0.out.size))
  clear h1 o1
  rw [show kn 3 0 = true by decide]
  have x2 : w1.cell? ⟨w.heap.size, 2, none⟩ = some (.bool true) := P1.out.cell 2 rfl
  go_wp2_with fail
  refine (applyC w.heap.size _ 9 0 _ P1.out (by decide)).mono ?_
  rintro e w2 ⟨rfl, h2, o2⟩
  rw [show kn 9 0 = false by decide]
  have B2 := Lib.hid (B1.out.trans (o2.below (Nat.le_refl _) B1.out.size))
  clear h2 o2 x2
  go_wp2_with fail
  go_returns
  exact ⟨rfl, B2.out⟩
end Go.Proofs.YtiiomiekjlggfaaDoor
