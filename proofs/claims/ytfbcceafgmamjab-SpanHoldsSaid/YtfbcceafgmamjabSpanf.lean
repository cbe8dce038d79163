/- The examples of chapter 2, and small turns of a call's contract. Conditions: none. -/
import Derived.Test.YtfbcceafgmamjabSpanC
namespace Go.Proofs.Ytfbcceafgmamjab
open Go.RowKit
theorem first2 (w : World) : Calls Try.prog 6 #[] w fun e w' => e = .returned (.bool true) ∧ Below w.heap.size w w' := by
  have t0 : Below w.heap.size w w := Below.refl _ _
  go_enter Try.func6, Try.ntmps6
  go_wp2_with fail
  refine (spanOf _ _ _).mono ?_; rintro e w1 ⟨rfl, hb1⟩
  have t1 : Below w.heap.size w w1 := by first | exact below_step t0 hb1 | exact below_stepA t0 hb1
  clear hb1 t0
  go_wp2
  go_ret
  exact ⟨rfl, t1.alloc t1.size _⟩
theorem sameYes (a b c d : Int) (h1 : a = c) (h2 : b = d) (w : World) : Calls Try.prog 18 #[.agg #[.int .i64 a, .int .i64 b], .agg #[.int .i64 c, .int .i64 d]] w fun e w' => e = .returned (.bool true) ∧ Below w.heap.size w w' := by
  subst h1 h2
  have := sameSpan a b a b w
  rw [sameB_self] at this
  exact this
theorem boolAs {P : Program} {f : FuncId} {args : Array Value} {w : World} {u v : Bool} {R : World → Prop} (h : u = v) (hc : Calls P f args w fun e w' => e = .returned (.bool u) ∧ R w') : Calls P f args w fun e w' => e = .returned (.bool v) ∧ R w' := by
  subst h; exact hc
theorem aggAs {P : Program} {f : FuncId} {args : Array Value} {w : World} {a b c d : Int} {R : World → Prop} (h1 : a = c) (h2 : b = d) (hc : Calls P f args w fun e w' => e = .returned (.agg #[.int .i64 a, .int .i64 b]) ∧ R w') : Calls P f args w fun e w' => e = .returned (.agg #[.int .i64 c, .int .i64 d]) ∧ R w' := by
  subst h1 h2; exact hc
theorem sameEq (a b : Int) (w : World) : Calls Try.prog 18 #[.agg #[.int .i64 a, .int .i64 b], .agg #[.int .i64 a, .int .i64 b]] w fun e w' => e = .returned (.bool true) ∧ Below w.heap.size w w' := sameYes a b a b rfl rfl w
end Go.Proofs.Ytfbcceafgmamjab
