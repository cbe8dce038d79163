/- The laws of chapter 23 that ask for no graph hold: each call returns true. Conditions: the arguments are numbers of 64 bits. -/
import Derived.Test.YtlmeelkoanijoaaRows
import Derived.WalkKit
import Derived.ProofKit
import Derived.Handy
import Derived.OpenShut
import Derived.Lib.Hide
namespace Go.Proofs.Ytlmeelkoanijoaa
open Go.RowKit
theorem ret_i {a b : Int} (h : a = b) : Ending.returned (.int .i64 a) = .returned (.int .i64 b) := by rw [h]
/-- A mask of seven contactors, as a number. -/
def m7 (x : BitVec 7) : Int := (x.toNat : Int)
theorem m7_lo (x : BitVec 7) : 0 ≤ m7 x := by unfold m7; omega
theorem m7_hi (x : BitVec 7) : m7 x < 128 := by unfold m7; have := x.isLt; omega
theorem m7_big (x : BitVec 7) : (BitVec.ofInt 64 (m7 x)).toNat = x.toNat := by
  unfold m7
  rw [BitVec.ofInt_natCast, BitVec.toNat_ofNat]
  have := x.isLt
  exact Nat.mod_eq_of_lt (by omega)
theorem m7_and (x y : BitVec 7) : bits .and .i64 (m7 x) (m7 y) = m7 (x &&& y) := by
  show IntKind.i64.wrap ((BitVec.ofInt 64 (m7 x) &&& BitVec.ofInt 64 (m7 y)).toNat : Int) = _
  rw [BitVec.toNat_and, m7_big, m7_big, ← BitVec.toNat_and]
  have := (x &&& y).isLt
  exact IntWalk.i64_in _ (by omega)
theorem m7_or (x y : BitVec 7) : bits .or .i64 (m7 x) (m7 y) = m7 (x ||| y) := by
  show IntKind.i64.wrap ((BitVec.ofInt 64 (m7 x) ||| BitVec.ofInt 64 (m7 y)).toNat : Int) = _
  rw [BitVec.toNat_or, m7_big, m7_big, ← BitVec.toNat_or]
  have := (x ||| y).isLt
  exact IntWalk.i64_in _ (by omega)
theorem andNot_nat (a b : Nat) (ha : a < 128) (hb : b < 128) : a &&& (18446744073709551615 - b) = a &&& (127 - b) := by
  have e1 : 18446744073709551615 - b = 2 ^ 7 * 144115188075855871 + (127 - b) := by omega
  have e2 : a &&& (18446744073709551615 - b) = (a &&& (18446744073709551615 - b)) % 2 ^ 7 := by
    have : a &&& (18446744073709551615 - b) ≤ a := Nat.and_le_left
    exact (Nat.mod_eq_of_lt (by omega)).symm
  rw [e2, Nat.and_mod_two_pow, e1, Nat.mul_add_mod, Nat.mod_eq_of_lt (show a < 2 ^ 7 by omega), Nat.mod_eq_of_lt (show 127 - b < 2 ^ 7 by omega)]
theorem m7_andNot (x y : BitVec 7) : bits .andNot .i64 (m7 x) (m7 y) = m7 (x &&& ~~~y) := by
  show IntKind.i64.wrap ((BitVec.ofInt 64 (m7 x) &&& ~~~BitVec.ofInt 64 (m7 y)).toNat : Int) = _
  rw [BitVec.toNat_and, BitVec.toNat_not, m7_big, m7_big]
  have e : x.toNat &&& (2 ^ 64 - 1 - y.toNat) = (x &&& ~~~y).toNat := by
    rw [BitVec.toNat_and, BitVec.toNat_not]
    exact andNot_nat x.toNat y.toNat x.isLt y.isLt
  rw [e]
  have := (x &&& ~~~y).isLt
  exact IntWalk.i64_in _ (by omega)
theorem m7_none (x : BitVec 7) : (m7 x == 0) = decide (x = 0) := by
  unfold m7
  by_cases h : x = 0
  · subst h; rfl
  · have h' : x.toNat ≠ 0 := fun e => h (BitVec.eq_of_toNat_eq (by simpa using e))
    have e : ((x.toNat : Int) == 0) = false := by rw [beq_eq_false_iff_ne]; omega
    rw [e]; exact (decide_eq_false h).symm
theorem and_not_self (x : BitVec 7) : x &&& ~~~x = 0 := by ext i; simp
theorem and_sub (x t : BitVec 7) : x &&& t &&& ~~~t = 0 := by ext i; simp
theorem m7_same (x : BitVec 7) : (m7 x == m7 x) = true := by simp
theorem number7 (n : Int) (w : World) :
    Calls Try.prog 7 #[.int .i64 n, .int .i64 128] w fun e w' => e = .returned (.int .i64 (m7 (BitVec.ofInt 7 n))) ∧ w = w' := by
  have key : m7 (BitVec.ofInt 7 n) = n % 128 := by
    unfold m7; rw [BitVec.toNat_ofInt]; omega
  have t1 : -128 < n.tmod 128 := by
    have := Int.tmod_lt_of_pos (-n) (show (0 : Int) < 128 by omega)
    rw [Int.neg_tmod] at this; omega
  have t2 : n.tmod 128 < 128 := Int.tmod_lt_of_pos n (by omega)
  have KEY := Lib.hid key
  clear key
  go_enter Try.func7, Try.ntmps7
  go_wp2
  all_goals
    go_ret
    refine ⟨ret_i ?_, rfl⟩
    rw [KEY.out]
    have e : n.tmod 128 = if 0 ≤ n then n % 128 else -(-n % 128) := by
      split
      · exact Int.tmod_eq_emod_of_nonneg (by assumption)
      · rw [show n = -(-n) from by omega, Int.neg_tmod, Int.tmod_eq_emod_of_nonneg (by omega)]; simp
    omega
theorem nextYes (t told maybe : BitVec 7) (h : (told ||| maybe) &&& ~~~t = 0) (w : World) :
    Calls Try.prog 13 #[.int .i64 (m7 t), .int .i64 (m7 told), .int .i64 (m7 maybe)] w fun e w' => e = .returned (.int .i64 (m7 t)) ∧ w = w' := by
  have e1 := m7_or told maybe
  have e2 := m7_andNot (told ||| maybe) t
  have e3 : (m7 ((told ||| maybe) &&& ~~~t) != 0) = false := by rw [h]; rfl
  clear h
  go_enter Try.func13, Try.ntmps13
  go_wp2
  go_ret
  exact ⟨rfl, rfl⟩
theorem nextNo (t told maybe : BitVec 7) (h : (told ||| maybe) &&& ~~~t ≠ 0) (w : World) :
    Calls Try.prog 13 #[.int .i64 (m7 t), .int .i64 (m7 told), .int .i64 (m7 maybe)] w fun e w' => e = .returned (.int .i64 (m7 (told &&& t))) ∧ w = w' := by
  have e1 := m7_or told maybe
  have e2 := m7_andNot (told ||| maybe) t
  have e4 := m7_and told t
  have e3 : (m7 ((told ||| maybe) &&& ~~~t) != 0) = true := by rw [bne, m7_none]; simpa using h
  clear h
  go_enter Try.func13, Try.ntmps13
  go_wp2
  go_ret
  exact ⟨rfl, rfl⟩
theorem first23 (w : World) : Calls Try.prog 12 #[] w fun e w' => e = .returned (.bool true) ∧ w = w' := by
  go_enter Try.func12, Try.ntmps12
  go_wp2_with fail
  refine (nextNo 3 0 4 (by decide) _).mono ?_; rintro e w' ⟨he, rfl⟩; rw [show m7 (0 &&& 3) = 0 from by decide] at he; subst he; go_wp2_with fail
  refine (nextYes 3 0 0 (by decide) _).mono ?_; rintro e w' ⟨he, rfl⟩; rw [show m7 3 = 3 from by decide] at he; subst he; go_wp2
  go_ret
  exact ⟨rfl, rfl⟩
set_option maxRecDepth 100000 in
set_option maxHeartbeats 1000000 in
theorem walkSequenceLeaves (a b c : Int) (_w0 : (Lit.int .i64 a).wf = true) (_w1 : (Lit.int .i64 b).wf = true) (_w2 : (Lit.int .i64 c).wf = true) (w : World) :
    Calls Try.prog 5 #[.int .i64 a, .int .i64 b, .int .i64 c] w fun e w' => e = .returned (.bool true) ∧ Grown w w' := by
  have N0 := Lib.hid fun (w : World) => number7 a w
  have N1 := Lib.hid fun (w : World) => number7 b w
  have N2 := Lib.hid fun (w : World) => number7 c w
  generalize BitVec.ofInt 7 a = t at *
  generalize BitVec.ofInt 7 b = told at *
  generalize BitVec.ofInt 7 c = maybe at *
  by_cases h : (told ||| maybe) &&& ~~~t = 0
  · have NX := Lib.hid fun (w : World) => nextYes t told maybe h w
    clear h
    have e1 := m7_andNot t t
    have e2 : (m7 (t &&& ~~~t) == 0) = true := by rw [show t &&& ~~~t = 0 from by ext i; simp]; rfl
    have e3 := m7_and told t
    have e4 := m7_andNot (told &&& t) t
    have e5 : (m7 (told &&& t &&& ~~~t) == 0) = true := by rw [show told &&& t &&& ~~~t = 0 from by ext i; simp]; rfl
    have e6 := m7_lo t
    have e7 := m7_hi t
    have E8 := m7_andNot t told
    go_enter Try.func5, Try.ntmps5
    go_wp2_with fail
    refine (first23 _).mono ?_; rintro e w' ⟨rfl, rfl⟩; go_wp2_with fail
    refine (N0.out _).mono ?_; rintro e w' ⟨rfl, rfl⟩; go_wp2_with fail
    refine (N1.out _).mono ?_; rintro e w' ⟨rfl, rfl⟩; go_wp2_with fail
    refine (N2.out _).mono ?_; rintro e w' ⟨rfl, rfl⟩; go_wp2_with fail
    refine (NX.out _).mono ?_; rintro e w' ⟨rfl, rfl⟩; go_wp2
    all_goals (go_ret; exact ⟨rfl, Grown.refl _⟩)
  · have NX := Lib.hid fun (w : World) => nextNo t told maybe h w
    clear h
    have e1 := m7_andNot (told &&& t) t
    have e2 : (m7 (told &&& t &&& ~~~t) == 0) = true := by rw [show told &&& t &&& ~~~t = 0 from by ext i; simp]; rfl
    have e3 := m7_and told t
    have e4 := m7_andNot (told &&& t) (told &&& t)
    have e5 : (m7 (told &&& t &&& ~~~(told &&& t)) == 0) = true := by rw [show told &&& t &&& ~~~(told &&& t) = 0 from by ext i; simp]; rfl
    have e6 := m7_lo (told &&& t)
    have e7 := m7_hi (told &&& t)
    have e8 := m7_andNot (told &&& t) told
    have e9 : (m7 (told &&& t &&& ~~~told) == 0) = true := by rw [show told &&& t &&& ~~~told = 0 from by ext i; simp; intro h1 h2; simp [h1]]; rfl
    go_enter Try.func5, Try.ntmps5
    go_wp2_with fail
    refine (first23 _).mono ?_; rintro e w' ⟨rfl, rfl⟩; go_wp2_with fail
    refine (N0.out _).mono ?_; rintro e w' ⟨rfl, rfl⟩; go_wp2_with fail
    refine (N1.out _).mono ?_; rintro e w' ⟨rfl, rfl⟩; go_wp2_with fail
    refine (N2.out _).mono ?_; rintro e w' ⟨rfl, rfl⟩; go_wp2_with fail
    refine (NX.out _).mono ?_; rintro e w' ⟨rfl, rfl⟩; go_wp2
    all_goals (go_ret; exact ⟨rfl, Grown.refl _⟩)
set_option maxHeartbeats 1000000 in
theorem walkSequenceComes (a b c : Int) (_w0 : (Lit.int .i64 a).wf = true) (_w1 : (Lit.int .i64 b).wf = true) (_w2 : (Lit.int .i64 c).wf = true) (w : World) :
    Calls Try.prog 4 #[.int .i64 a, .int .i64 b, .int .i64 c] w fun e w' => e = .returned (.bool true) ∧ Grown w w' := by
  have N0 := Lib.hid fun (w : World) => number7 a w
  have N1 := Lib.hid fun (w : World) => number7 b w
  have N2 := Lib.hid fun (w : World) => number7 c w
  generalize BitVec.ofInt 7 a = t at *
  generalize BitVec.ofInt 7 b = told at *
  generalize BitVec.ofInt 7 c = maybe at *
  by_cases h : (told ||| maybe) &&& ~~~t = 0
  · have NX := Lib.hid fun (w : World) => nextYes t told maybe h w
    have NY := Lib.hid fun (w : World) => nextYes t t t (by rw [BitVec.or_self]; exact and_not_self t) w
    have e1 := m7_or told maybe
    have e2 := m7_andNot (told ||| maybe) t
    have e3 : (m7 ((told ||| maybe) &&& ~~~t) == 0) = true := by rw [h]; rfl
    clear h
    go_enter Try.func4, Try.ntmps4
    go_wp2_with fail
    refine (first23 _).mono ?_; rintro e w' ⟨rfl, rfl⟩; go_wp2_with fail
    refine (N0.out _).mono ?_; rintro e w' ⟨rfl, rfl⟩; go_wp2_with fail
    refine (N1.out _).mono ?_; rintro e w' ⟨rfl, rfl⟩; go_wp2_with fail
    refine (N2.out _).mono ?_; rintro e w' ⟨rfl, rfl⟩; go_wp2_with fail
    refine (NX.out _).mono ?_; rintro e w' ⟨rfl, rfl⟩; go_wp2_with fail
    refine (NY.out _).mono ?_; rintro e w' ⟨rfl, rfl⟩; go_wp2
    all_goals (go_ret; exact ⟨rfl, Grown.refl _⟩)
  · have NX := Lib.hid fun (w : World) => nextNo t told maybe h w
    have NY := Lib.hid fun (w : World) => nextYes t (told &&& t) (told &&& t) (by rw [BitVec.or_self]; exact and_sub told t) w
    have e1 := m7_or told maybe
    have e2 := m7_andNot (told ||| maybe) t
    have e3 : (m7 ((told ||| maybe) &&& ~~~t) == 0) = false := by rw [m7_none]; simpa using h
    have e4 := m7_and told t
    clear h
    go_enter Try.func4, Try.ntmps4
    go_wp2_with fail
    refine (first23 _).mono ?_; rintro e w' ⟨rfl, rfl⟩; go_wp2_with fail
    refine (N0.out _).mono ?_; rintro e w' ⟨rfl, rfl⟩; go_wp2_with fail
    refine (N1.out _).mono ?_; rintro e w' ⟨rfl, rfl⟩; go_wp2_with fail
    refine (N2.out _).mono ?_; rintro e w' ⟨rfl, rfl⟩; go_wp2_with fail
    refine (NX.out _).mono ?_; rintro e w' ⟨rfl, rfl⟩; go_wp2_with fail
    refine (NY.out _).mono ?_; rintro e w' ⟨rfl, rfl⟩; go_wp2
    all_goals (go_ret; exact ⟨rfl, Grown.refl _⟩)
end Go.Proofs.Ytlmeelkoanijoaa
