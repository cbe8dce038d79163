/- A number out of any other, of not more than so many. No condition. -/
import Derived.Test.YtiiomiekjlggfaaDoorOnly
import Derived.Handy
import Derived.OpenShut
import Derived.Lib.Hide
namespace Go.Proofs.YtiiomiekjlggfaaDoor
open Go.RowKit
theorem ret_nb {a b : Int} (h : a = b) : Ending.returned (.int .i64 a) = .returned (.int .i64 b) := by rw [h]
theorem numbC (n b : Int) (hb : 1 ≤ b) (hb2 : b ≤ 1099511627776) (w : World) :
    Calls Tryd.prog 22 #[.int .i64 n, .int .i64 b] w fun e w' => e = .returned (.int .i64 (n % b)) ∧ w = w' := by
  have t1 : -b < n.tmod b := by
    have := Int.tmod_lt_of_pos (-n) (show (0 : Int) < b by omega)
    rw [Int.neg_tmod] at this; omega
  have t2 : n.tmod b < b := Int.tmod_lt_of_pos n (by omega)
  have e0 : ((b : Int) == 0) = false := by rw [beq_eq_false_iff_ne]; omega
  go_enter Tryd.func22, Tryd.ntmps22
  go_wp2
  all_goals
    go_ret
    refine ⟨ret_nb ?_, rfl⟩
    have q1 := Int.mul_tdiv_add_tmod n b
    first
      | (have k := Int.emod_emod_of_dvd n (Int.dvd_refl b)
         have : n % b = (n.tmod b + b) % b := by
           rw [Int.add_emod_right]
           conv => lhs; rw [← q1]
           rw [Int.add_comm, Int.add_mul_emod_self_left]
         rw [this, Int.emod_eq_of_lt (by omega) (by omega)])
      | (have : n % b = (n.tmod b) % b := by
           conv => lhs; rw [← q1]
           rw [Int.add_comm, Int.add_mul_emod_self_left]
         rw [this, Int.emod_eq_of_lt (by omega) (by omega)])
end Go.Proofs.YtiiomiekjlggfaaDoor
