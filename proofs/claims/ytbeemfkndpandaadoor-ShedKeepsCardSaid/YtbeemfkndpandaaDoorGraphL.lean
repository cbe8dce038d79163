/- The laws of chapter 21 hold: each call returns true. Conditions: the arguments are numbers of 64 bits; the table of ends lies in memory as the program's text lays it. -/
import Derived.Test.YtbeemfkndpandaaDoorGraphS
namespace Go.Proofs.YtbeemfkndpandaaDoor
open Go.RowKit
theorem numberB (n b : Int) (hb : 1 ≤ b) (hb2 : b ≤ 1000000) (w : World) :
    Calls Tryd.prog 26 #[.int .i64 n, .int .i64 b] w fun e w' => e = .returned (.int .i64 (n % b)) ∧ w = w' := by
  have t1 : -b < n.tmod b := by
    have := Int.tmod_lt_of_pos (-n) (show (0 : Int) < b by omega)
    rw [Int.neg_tmod] at this; omega
  have t2 : n.tmod b < b := Int.tmod_lt_of_pos n (by omega)
  have e0 : ((b : Int) == 0) = false := by rw [beq_eq_false_iff_ne]; omega
  go_enter Tryd.func26, Tryd.ntmps26
  go_wp2
  all_goals
    go_ret
    refine ⟨ret_i ?_, rfl⟩
    have q1 := Int.mul_tdiv_add_tmod n b
    first
      | (have k := Int.emod_emod_of_dvd n (Int.dvd_refl b)
         have : n % b = (n.tmod b + b) % b := by
           rw [Int.add_emod_right]
           conv => lhs; rw [← q1]
           rw [Int.add_comm, Int.add_mul_emod_self_left]
         rw [this, Int.emod_eq_of_lt (by omega) (by omega)])
      | (have : n % b = (n.tmod b) % b := by
           conv => lhs; rw [← q1]
           rw [Int.add_comm, Int.add_mul_emod_self_left]
         rw [this, Int.emod_eq_of_lt (by omega) (by omega)])
/-- What node n reaches, of any node. -/
def rv (m : BitVec 7) (n : Int) : Int := if 0 ≤ n ∧ n < 7 then m7 (rch m n.toNat) else 0
def fv (m : BitVec 7) (b : Int) : Int := if 4 ≤ b ∧ b < 7 then fds m b.toNat else -1
def eAV (c : Int) : Int := if 0 ≤ c ∧ c < 7 then (eA c.toNat : Int) else -1
def eBV (c : Int) : Int := if 0 ≤ c ∧ c < 7 then (eB c.toNat : Int) else -1
theorem reachV (a n : Int) (w : World) (hT : Tab w) :
    Calls Tryd.prog 43 #[.int .i64 a, .int .i64 n] w fun e w' => e = .returned (.int .i64 (rv (BitVec.ofInt 7 a) n)) ∧ Below w.heap.size w w' := by
  unfold rv
  by_cases h : 0 ≤ n ∧ n < 7
  · rw [if_pos h]
    obtain ⟨k, rfl⟩ := Int.eq_ofNat_of_zero_le h.1
    exact reachC a _ rfl k (by omega) w hT
  · rw [if_neg h]
    exact reachBad a n (by omega) w
theorem reachRV (a n : Int) (w : World) :
    Calls Tryd.prog 53 #[.int .i64 a, .int .i64 n] w fun e w' => e = .returned (.int .i64 (rv (BitVec.ofInt 7 a) n)) ∧ w = w' := by
  unfold rv
  by_cases h : 0 ≤ n ∧ n < 7
  · rw [if_pos h]
    obtain ⟨k, rfl⟩ := Int.eq_ofNat_of_zero_le h.1
    exact reachR a _ rfl k (by omega) w
  · rw [if_neg h]
    exact reachRBad a n (by omega) w
theorem feedsV (a n : Int) (w : World) (hT : Tab w) :
    Calls Tryd.prog 27 #[.int .i64 a, .int .i64 n] w fun e w' => e = .returned (.int .i64 (fv (BitVec.ofInt 7 a) n)) ∧ Below w.heap.size w w' := by
  unfold fv
  by_cases h : 4 ≤ n ∧ n < 7
  · rw [if_pos h]
    obtain ⟨k, rfl⟩ := Int.eq_ofNat_of_zero_le (show 0 ≤ n by omega)
    exact feedsC a _ rfl k (by omega) (by omega) w hT
  · rw [if_neg h]
    by_cases h4 : n < 4
    · exact feedsLow a n h4 w
    · exact feedsHigh a n (by omega) w hT
theorem feedsRV (a n : Int) (w : World) :
    Calls Tryd.prog 41 #[.int .i64 a, .int .i64 n] w fun e w' => e = .returned (.int .i64 (fv (BitVec.ofInt 7 a) n)) ∧ w = w' := by
  unfold fv
  by_cases h : 4 ≤ n ∧ n < 7
  · rw [if_pos h]
    obtain ⟨k, rfl⟩ := Int.eq_ofNat_of_zero_le (show 0 ≤ n by omega)
    exact feedsR a _ rfl k (by omega) (by omega) w
  · rw [if_neg h]
    exact feedsRBad a n (by omega) w
theorem endsRV (c : Int) (w : World) :
    Calls Tryd.prog 62 #[.int .i64 c] w fun e w' => e = .returned (.tuple #[.int .i64 (eAV c), .int .i64 (eBV c)]) ∧ w = w' := by
  unfold eAV eBV
  by_cases h : 0 ≤ c ∧ c < 7
  · rw [if_pos h, if_pos h]
    obtain ⟨k, rfl⟩ := Int.eq_ofNat_of_zero_le h.1
    exact endsR k (by omega) w
  · rw [if_neg h, if_neg h]
    exact endsRBad c (by omega) w
end Go.Proofs.YtbeemfkndpandaaDoor
