/- Whether an error is that of a code. Conditions: the seven errors lie apart. -/
import Derived.Test.YtngomgkinaodjaaDoorErrF
import Derived.Test.YtngomgkinaodjaaDoorBox2
namespace Go.Proofs.YtngomgkinaodjaaDoor
open Go.RowKit
set_option linter.unusedVariables false
set_option maxRecDepth 20000
theorem isC {E : Nat → Addr} {w : World} (h : Ers E w) {v : Value} {c : Int} (he : ErrIs E w v c false 0) :
    Calls Tryd.prog 17 #[v, .int .i64 c] w fun e w' => e = .returned (.bool true) ∧ Below w.heap.size w w' := by
  have H := Lib.hid h
  have HE := Lib.hid he
  clear h he
  go_enter Tryd.func17, Tryd.ntmps17
  go_wp2_with fail
  refine (bareC c _).mono ?_
  rintro e w1 ⟨rfl, hb⟩
  have B1 := Lib.hid hb
  clear hb
  go_wp2_with fail
  refine (sameC (H.out.below B1.out) (HE.out.below B1.out)).mono ?_
  rintro e w2 ⟨rfl, hb⟩
  have B2 := Lib.hid (B1.out.trans (hb.mono B1.out.size))
  clear hb
  go_wp2_with fail
  go_returns
  exact ⟨rfl, B2.out⟩
theorem Ers.alloc {E : Nat → Addr} {w : World} (h : Ers E w) (o : Obj) : Ers E (w.alloc o) := h.below ((Below.refl _ _).alloc (Nat.le_refl _) o)
end Go.Proofs.YtngomgkinaodjaaDoor
