/- The laws of chapter 21 hold: each call returns true. Conditions: the arguments are numbers of 64 bits; the table of ends lies in memory as the program's text lays it. -/
import Derived.Test.YtmnnlimiacdeoaaDoorGraphS
namespace Go.Proofs.YtmnnlimiacdeoaaDoor
open Go.RowKit
theorem numberB (n b : Int) (hb : 1 ≤ b) (hb2 : b ≤ 1000000) (w : World) :
    Calls Tryd.prog 21 #[.int .i64 n, .int .i64 b] w fun e w' => e = .returned (.int .i64 (n % b)) ∧ w = w' := by
  have t1 : -b < n.tmod b := by
    have := Int.tmod_lt_of_pos (-n) (show (0 : Int) < b by omega)
    rw [Int.neg_tmod] at this; omega
  have t2 : n.tmod b < b := Int.tmod_lt_of_pos n (by omega)
  have e0 : ((b : Int) == 0) = false := by rw [beq_eq_false_iff_ne]; omega
  go_enter Tryd.func21, Tryd.ntmps21
  go_wp2
  all_goals
    go_ret
    refine ⟨ret_i ?_, rfl⟩
    have q1 := Int.mul_tdiv_add_tmod n b
    first
      | (have k := Int.emod_emod_of_dvd n (Int.dvd_refl b)
         have : n % b = (n.tmod b + b) % b := by
           rw [Int.add_emod_right]
           conv => lhs; rw [← q1]
           rw [Int.add_comm, Int.add_mul_emod_self_left]
         rw [this, Int.emod_eq_of_lt (by omega) (by omega)])
      | (have : n % b = (n.tmod b) % b := by
           conv => lhs; rw [← q1]
           rw [Int.add_comm, Int.add_mul_emod_self_left]
         rw [this, Int.emod_eq_of_lt (by omega) (by omega)])
/-- What node n reaches, of any node. -/
def rv (m : BitVec 7) (n : Int) : Int := if 0 ≤ n ∧ n < 7 then m7 (rch m n.toNat) else 0
def fv (m : BitVec 7) (b : Int) : Int := if 4 ≤ b ∧ b < 7 then fds m b.toNat else -1
def eAV (c : Int) : Int := if 0 ≤ c ∧ c < 7 then (eA c.toNat : Int) else -1
def eBV (c : Int) : Int := if 0 ≤ c ∧ c < 7 then (eB c.toNat : Int) else -1
theorem reachV (a n : Int) (w : World) (hT : Tab w) :
    Calls Tryd.prog 13 #[.int .i64 a, .int .i64 n] w fun e w' => e = .returned (.int .i64 (rv (BitVec.ofInt 7 a) n)) ∧ Below w.heap.size w w' := by
  unfold rv
  by_cases h : 0 ≤ n ∧ n < 7
  · rw [if_pos h]
    obtain ⟨k, rfl⟩ := Int.eq_ofNat_of_zero_le h.1
    exact reachC a _ rfl k (by omega) w hT
  · rw [if_neg h]
    exact reachBad a n (by omega) w
theorem reachRV (a n : Int) (w : World) :
    Calls Tryd.prog 14 #[.int .i64 a, .int .i64 n] w fun e w' => e = .returned (.int .i64 (rv (BitVec.ofInt 7 a) n)) ∧ w = w' := by
  unfold rv
  by_cases h : 0 ≤ n ∧ n < 7
  · rw [if_pos h]
    obtain ⟨k, rfl⟩ := Int.eq_ofNat_of_zero_le h.1
    exact reachR a _ rfl k (by omega) w
  · rw [if_neg h]
    exact reachRBad a n (by omega) w
theorem feedsV (a n : Int) (w : World) (hT : Tab w) :
    Calls Tryd.prog 17 #[.int .i64 a, .int .i64 n] w fun e w' => e = .returned (.int .i64 (fv (BitVec.ofInt 7 a) n)) ∧ Below w.heap.size w w' := by
  unfold fv
  by_cases h : 4 ≤ n ∧ n < 7
  · rw [if_pos h]
    obtain ⟨k, rfl⟩ := Int.eq_ofNat_of_zero_le (show 0 ≤ n by omega)
    exact feedsC a _ rfl k (by omega) (by omega) w hT
  · rw [if_neg h]
    by_cases h4 : n < 4
    · exact feedsLow a n h4 w
    · exact feedsHigh a n (by omega) w hT
theorem feedsRV (a n : Int) (w : World) :
    Calls Tryd.prog 18 #[.int .i64 a, .int .i64 n] w fun e w' => e = .returned (.int .i64 (fv (BitVec.ofInt 7 a) n)) ∧ w = w' := by
  unfold fv
  by_cases h : 4 ≤ n ∧ n < 7
  · rw [if_pos h]
    obtain ⟨k, rfl⟩ := Int.eq_ofNat_of_zero_le (show 0 ≤ n by omega)
    exact feedsR a _ rfl k (by omega) (by omega) w
  · rw [if_neg h]
    exact feedsRBad a n (by omega) w
theorem endsBad (c : Int) (hc : c < 0 ∨ 7 ≤ c) (w : World) :
    Calls Tryd.prog 11 #[.int .i64 c] w fun e w' => e = .returned (.tuple #[.int .i64 (-1), .int .i64 (-1)]) ∧ Below w.heap.size w w' := by
  rcases hc with h | h
  all_goals
    go_enter Tryd.func11, Tryd.ntmps11
    go_wp2
    go_returns
    exact ⟨rfl, Below.refl _ _⟩
theorem endsV (c : Int) (w : World) (hT : Tab w) :
    Calls Tryd.prog 11 #[.int .i64 c] w fun e w' => e = .returned (.tuple #[.int .i64 (eAV c), .int .i64 (eBV c)]) ∧ Below w.heap.size w w' := by
  unfold eAV eBV
  by_cases h : 0 ≤ c ∧ c < 7
  · rw [if_pos h, if_pos h]
    obtain ⟨k, rfl⟩ := Int.eq_ofNat_of_zero_le h.1
    exact endsC k (by omega) w hT
  · rw [if_neg h, if_neg h]
    exact endsBad c (by omega) w
theorem endsRV (c : Int) (w : World) :
    Calls Tryd.prog 12 #[.int .i64 c] w fun e w' => e = .returned (.tuple #[.int .i64 (eAV c), .int .i64 (eBV c)]) ∧ w = w' := by
  unfold eAV eBV
  by_cases h : 0 ≤ c ∧ c < 7
  · rw [if_pos h, if_pos h]
    obtain ⟨k, rfl⟩ := Int.eq_ofNat_of_zero_le h.1
    exact endsR k (by omega) w
  · rw [if_neg h, if_neg h]
    exact endsRBad c (by omega) w
theorem partsV (a : Int) (w : World) (hT : Tab w) :
    Calls Tryd.prog 19 #[.int .i64 a] w fun e w' => e = .returned (.int .i64 (prt (BitVec.ofInt 7 a))) ∧ Below w.heap.size w w' := partsC a _ rfl w hT
theorem joinedV (a : Int) (w : World) (hT : Tab w) :
    Calls Tryd.prog 15 #[.int .i64 a] w fun e w' => e = .returned (.bool (jnd (BitVec.ofInt 7 a))) ∧ Below w.heap.size w w' := joinedC a _ rfl w hT
theorem first21 (w : World) (hT : Tab w) : Calls Tryd.prog 10 #[] w fun e w' => e = .returned (.bool true) ∧ Below w.heap.size w w' := by
  have HT := Lib.hid hT
  clear hT
  have TB0 := Lib.hid (Below.refl w.heap.size w)
  go_enter Tryd.func10, Tryd.ntmps10
  go_wp2_with fail
  refine (endsV 0 _ (HT.out.below TB0.out)).mono ?_
  rintro e w1 ⟨he, hb⟩
  rw [show eAV 0 = 0 from rfl, show eBV 0 = 4 from rfl] at he
  subst he
  have TB1 := Lib.hid (TB0.out.trans (hb.mono TB0.out.size))
  clear hb TB0
  go_wp2_with fail
  refine (partsV 0 _ (HT.out.below TB1.out)).mono ?_
  rintro e w2 ⟨he, hb⟩
  rw [show prt (BitVec.ofInt 7 0) = 7 by decide +kernel] at he
  subst he
  have TB2 := Lib.hid (TB1.out.trans (hb.mono TB1.out.size))
  clear hb TB1
  go_wp2_with fail
  refine (feedsV 1 4 _ (HT.out.below TB2.out)).mono ?_
  rintro e w3 ⟨he, hb⟩
  rw [show fv (BitVec.ofInt 7 1) 4 = 0 by decide +kernel] at he
  subst he
  have TB3 := Lib.hid (TB2.out.trans (hb.mono TB2.out.size))
  clear hb TB2
  go_wp2_with fail
  go_ret
  exact ⟨rfl, TB3.out⟩
set_option maxRecDepth 100000 in
set_option maxHeartbeats 8000000 in
theorem walkGraphSays (a n c : Int) (_w0 : (Lit.int .i64 a).wf = true) (_w1 : (Lit.int .i64 n).wf = true) (_w2 : (Lit.int .i64 c).wf = true) (w : World) (hT : Tab w) :
    Calls Tryd.prog 3 #[.int .i64 a, .int .i64 n, .int .i64 c] w fun e w' => e = .returned (.bool true) ∧ Below w.heap.size w w' := by
  have HT := Lib.hid hT
  clear hT
  have TB0 := Lib.hid (Below.refl w.heap.size w)
  have ea : (eAV c == eAV c) = true := by simp
  have eb : (eBV c == eBV c) = true := by simp
  go_enter Tryd.func3, Tryd.ntmps3
  go_wp2_with fail
  refine (first21 _ (HT.out.below TB0.out)).mono ?_
  rintro e w1 ⟨he, hb⟩
  subst he
  have TB1 := Lib.hid (TB0.out.trans (hb.mono TB0.out.size))
  clear hb TB0
  go_wp2_with fail
  refine (endsV c _ (HT.out.below TB1.out)).mono ?_
  rintro e w2 ⟨he, hb⟩
  subst he
  have TB2 := Lib.hid (TB1.out.trans (hb.mono TB1.out.size))
  clear hb TB1
  go_wp2_with fail
  refine (endsRV c _).mono ?_
  rintro e w' ⟨he, rfl⟩
  subst he
  go_wp2_with fail
  go_loopw [12] (fun v wr => ∃ k : Nat, k < 135 ∧ v = .int .i64 k ∧ Below w.heap.size w wr) (fun v _ => 135 - (intOf v).toNat)
  case atStart => exact ⟨0, by omega, rfl, TB2.out⟩
  case round =>
    obtain ⟨k, hk, rfl, hb⟩ := hrel
    clear TB2
    have TB0 := Lib.hid hb
    clear hb
    by_cases h : k < 128
    · have e1 : ∀ m, (rv m n != rv m n) = false := fun m => by simp
      have e2 : ∀ m, (jnd m != jnd m) = false := fun m => by simp
      have e3 : ∀ m, (fv m n != fv m n) = false := fun m => by simp
      have e4 : ∀ m, (prt m != prt m) = false := fun m => by simp
      generalize hz : bits .xor .i64 a k = z
      have e1z := e1 (BitVec.ofInt 7 z)
      have e2z := e2 (BitVec.ofInt 7 z)
      have e3z := e3 (BitVec.ofInt 7 z)
      have e4z := e4 (BitVec.ofInt 7 z)
      clear e1 e2 e3 e4
      go_wp2_with fail
      refine (reachV z n _ (HT.out.below TB0.out)).mono ?_
      rintro e w1 ⟨he, hb⟩
      subst he
      have TB1 := Lib.hid (TB0.out.trans (hb.mono TB0.out.size))
      clear hb TB0
      go_wp2_with fail
      refine (reachRV z n _).mono ?_
      rintro e w' ⟨he, rfl⟩
      subst he
      go_wp2_with fail
      refine (joinedV z _ (HT.out.below TB1.out)).mono ?_
      rintro e w2 ⟨he, hb⟩
      subst he
      have TB2 := Lib.hid (TB1.out.trans (hb.mono TB1.out.size))
      clear hb TB1
      go_wp2_with fail
      refine (joinedR z _ rfl _).mono ?_
      rintro e w' ⟨he, rfl⟩
      subst he
      go_wp2_with fail
      refine (feedsV z n _ (HT.out.below TB2.out)).mono ?_
      rintro e w3 ⟨he, hb⟩
      subst he
      have TB3 := Lib.hid (TB2.out.trans (hb.mono TB2.out.size))
      clear hb TB2
      go_wp2_with fail
      refine (feedsRV z n _).mono ?_
      rintro e w' ⟨he, rfl⟩
      subst he
      go_wp2_with fail
      refine (partsV z _ (HT.out.below TB3.out)).mono ?_
      rintro e w4 ⟨he, hb⟩
      subst he
      have TB4 := Lib.hid (TB3.out.trans (hb.mono TB3.out.size))
      clear hb TB3
      go_wp2_with fail
      refine (partsR z _ rfl _).mono ?_
      rintro e w' ⟨he, rfl⟩
      subst he
      go_wp2_with fail
      go_roundw
      case rel => exact ⟨k + 7, by omega, by go_num, TB4.out⟩
      case measure => simp [intOf]; omega
    · go_wp2_with fail
      go_ret
      exact ⟨rfl, TB0.out⟩
end Go.Proofs.YtmnnlimiacdeoaaDoor
