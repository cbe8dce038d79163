/- The examples of chapter 11; whether records are the same. Conditions: the seven errors lie apart. -/
import Derived.Test.YtngomgkinaodjaaDoorSlotB
import Derived.Test.YtngomgkinaodjaaDoorIsC
import Derived.Test.YtngomgkinaodjaaDoorSlotR
namespace Go.Proofs.YtngomgkinaodjaaDoor
open Go Go.RowKit
set_option linter.unusedVariables false
set_option maxRecDepth 20000
set_option maxHeartbeats 4000000 in
theorem first11 {E : Nat → Addr} (w : World) (he : Ers E w) : Calls Tryd.prog 24 #[] w fun e w' => e = .returned (.bool true) ∧ Below w.heap.size w w' := by
  have HE := Lib.hid he
  clear he
  go_enter Tryd.func24, Tryd.ntmps24
  go_wp2_with fail
  refine (readS none 0 0 (by omega) _ HE.out).mono ?_
  rintro e w1 ⟨rfl, hb⟩
  have H1 := Lib.hid hb
  clear hb
  go_upto_region 2 with fail
  have H2 := Lib.hid (H1.out.alloc H1.out.size (.cells #[.int .u32 0, .int .i64 0, .int .u32 0, .int .i64 0, .int .i64 0, .int .i64 0, .int .i64 0] 51))
  clear H1
  generalize World.alloc w1 _ = w2 at *
  go_wp2_with fail
  refine (isC (HE.out.below H2.out) (.bare 2 (by omega))).mono ?_
  rintro e w3 ⟨rfl, hb⟩
  have H3 := Lib.hid (H2.out.trans (hb.mono H2.out.size))
  clear hb
  go_wp2_with fail
  go_returns
  exact ⟨rfl, H3.out⟩
end Go.Proofs.YtngomgkinaodjaaDoor
