/- What 'inside' and 'at' of chapter 2's laws return: a number of a span; a span of one number. Conditions: the span's numbers are of 31 bits. -/
import Derived.Test.YtfbcceafgmamjabSpanf
import Derived.Test.YtfbcceafgmamjabLex
import Derived.WalkSmall
namespace Go.Proofs.Ytfbcceafgmamjab
open Go.RowKit
def insI (pl ph x : Int) : Int := pl + (x.tmod (ph - pl + 1) + (ph - pl + 1)) % (ph - pl + 1)
theorem insI_in (pl ph x : Int) (h : pl ≤ ph) : pl ≤ insI pl ph x ∧ insI pl ph x ≤ ph := by
  unfold insI
  have h1 := Int.emod_nonneg (x.tmod (ph - pl + 1) + (ph - pl + 1)) (show ph - pl + 1 ≠ 0 by omega)
  have h2 := Int.emod_lt_of_pos (x.tmod (ph - pl + 1) + (ph - pl + 1)) (show 0 < ph - pl + 1 by omega)
  omega
theorem tmod_in (x m : Int) (h : 0 < m) : -m < x.tmod m ∧ x.tmod m < m := by
  refine ⟨?_, Int.tmod_lt_of_pos x h⟩
  have := Int.tmod_lt_of_pos (-x) h
  rw [Int.neg_tmod] at this; omega
theorem insideC (pl ph x : Int) (h0 : -1073741824 ≤ pl) (h1 : pl ≤ ph) (h2 : ph ≤ 1073741824) (w : World) :
    Calls Try.prog 8 #[.agg #[.int .i64 pl, .int .i64 ph], .int .i64 x] w fun e w' => e = .returned (.int .i64 (insI pl ph x)) ∧ Below w.heap.size w w' := by
  have t := tmod_in x (ph - pl + 1) (by omega)
  have t1 := t.1
  have t2 := t.2
  clear t
  have e0 : ((ph - pl + 1 : Int) == 0) = false := by rw [beq_eq_false_iff_ne]; omega
  have b1 := Int.emod_nonneg (x.tmod (ph - pl + 1) + (ph - pl + 1)) (show ph - pl + 1 ≠ 0 by omega)
  have b2 := Int.emod_lt_of_pos (x.tmod (ph - pl + 1) + (ph - pl + 1)) (show 0 < ph - pl + 1 by omega)
  go_enter Try.func8, Try.ntmps8
  go_wp2
  go_quiet (fail)
  go_wp2
  go_ret
  refine ⟨ret_i64 ?_, below_drewN ((Below.refl _ _).alloc (Nat.le_refl _) _) _⟩
  have e : x.tmod (ph - pl + 1) % (ph - pl + 1) = (x.tmod (ph - pl + 1) + (ph - pl + 1)) % (ph - pl + 1) := by rw [Int.add_emod_right]
  rw [e]
  unfold insI
  exact IntWalk.wrap64_in _ (by omega)
theorem atC (x : Int) (w : World) : Calls Try.prog 19 #[.int .i64 x] w fun e w' => e = .returned (.agg #[.int .i64 x, .int .i64 x]) ∧ Below w.heap.size w w' := by
  go_enter Try.func19, Try.ntmps19
  go_wp2
  refine bodyPost_ret (v := .agg #[.int .i64 x, .int .i64 x]) (by simp [results, Try.results19, go_sem]) rfl ⟨rfl, ?_⟩
  go_grown
end Go.Proofs.Ytfbcceafgmamjab
