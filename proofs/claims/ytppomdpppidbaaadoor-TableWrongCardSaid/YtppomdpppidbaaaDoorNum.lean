/- What the functions of package fixed, and the document's own on numbers, return: numbers of 64 bits that stop at their bounds. Conditions: each argument is a number of 64 bits. -/
import Derived.Test.YtppomdpppidbaaaDoorRows
import Derived.WalkKit
import Derived.ProofKit
import Derived.Handy
import Derived.OpenShut
namespace Go.Proofs.YtppomdpppidbaaaDoor
open Go.RowKit
set_option linter.unusedSimpArgs false
def I64 (a : Int) : Prop := -9223372036854775808 ≤ a ∧ a ≤ 9223372036854775807
def sat (n : Int) : Int := if n < -9223372036854775808 then -9223372036854775808 else if 9223372036854775807 < n then 9223372036854775807 else n
def absI (a : Int) : Int := if a < 0 then -a else a
def downI (a b : Int) : Int := if b < 1 then 0 else a / b
def upI (a b : Int) : Int := if b < 1 then 0 else -(-a / b)
def clampI (x lo hi : Int) : Int := if (if hi < x then hi else x) < lo then lo else (if hi < x then hi else x)
theorem ret_i64 {a b : Int} (h : a = b) : Ending.returned (.int .i64 a) = .returned (.int .i64 b) := by rw [h]
theorem ret_u64 {a b : Int} (h : a = b) : Ending.returned (.int .u64 a) = .returned (.int .u64 b) := by rw [h]
theorem ret_bool {a b : Bool} (h : a = b) : Ending.returned (.bool a) = .returned (.bool b) := by rw [h]
theorem refClamp (a b c : Int) (w : World) :
    Calls Tryd.prog 30 #[.int .i64 a, .int .i64 b, .int .i64 c] w fun e w' => e = .returned (.int .i64 (clampI a b c)) ∧ w = w' := by
  go_enter Tryd.func30, Tryd.ntmps30
  go_wp2
  all_goals
    go_ret
    refine ⟨ret_i64 ?_, rfl⟩
    simp only [clampI] at *
    omega
theorem quo_facts (a b : Int) (hb : 1 ≤ b) : (a.tmod b < 0 → a / b = a.tdiv b - 1) ∧ (0 ≤ a.tmod b → a / b = a.tdiv b) ∧ (0 < a.tmod b → -(-a / b) = a.tdiv b + 1) ∧ (a.tmod b ≤ 0 → -(-a / b) = a.tdiv b) := by
  have e : b * a.tdiv b + a.tmod b = a := Int.mul_tdiv_add_tmod a b
  have l1 : a.tmod b < b := Int.tmod_lt_of_pos a (by omega)
  have l2 : -b < a.tmod b := by
    have := Int.tmod_lt_of_pos (-a) (show 0 < b by omega)
    rw [Int.neg_tmod] at this; omega
  generalize a.tdiv b = t at *
  generalize a.tmod b = m at *
  have key : ∀ (n q : Int), q * b ≤ n → n < (q + 1) * b → n / b = q := by
    intro n q h1 h2
    have g1 : q ≤ n / b := (Int.le_ediv_iff_mul_le (by omega)).2 h1
    have g2 : n / b < q + 1 := (Int.ediv_lt_iff_lt_mul (by omega)).2 h2
    omega
  have s1 : (t - 1) * b = b * t - b := by rw [Int.sub_mul, Int.mul_comm t b]; omega
  have s2 : (t + 1) * b = b * t + b := by rw [Int.add_mul, Int.mul_comm t b]; omega
  have s3 : (-t - 1) * b = -(b * t) - b := by rw [Int.sub_mul, Int.neg_mul, Int.mul_comm t b]; omega
  have s4 : (-t + 1) * b = -(b * t) + b := by rw [Int.add_mul, Int.neg_mul, Int.mul_comm t b]; omega
  have s5 : -t * b = -(b * t) := by rw [Int.neg_mul, Int.mul_comm t b]
  have s0 : t * b = b * t := Int.mul_comm t b
  refine ⟨fun h => ?_, fun h => ?_, fun h => ?_, fun h => ?_⟩
  · exact key a (t - 1) (by rw [s1]; omega) (by rw [show t - 1 + 1 = t from by omega, s0]; omega)
  · exact key a t (by rw [s0]; omega) (by rw [s2]; omega)
  · rw [key (-a) (-t - 1) (by rw [s3]; omega) (by rw [show -t - 1 + 1 = -t from by omega, s5]; omega)]; omega
  · rw [key (-a) (-t) (by rw [s5]; omega) (by rw [s4]; omega)]; omega
theorem quo_bounds (a b : Int) (hb : 1 ≤ b) (ha : I64 a) : I64 (a / b) ∧ I64 (-(-a / b)) := by
  have h : ∀ n : Int, -9223372036854775808 ≤ n → n ≤ 9223372036854775808 → (0 ≤ n → 0 ≤ n / b ∧ n / b ≤ n) ∧ (n < 0 → n ≤ n / b ∧ n / b < 0) := by
    intro n h1 h2
    refine ⟨fun h => ⟨Int.ediv_nonneg h (by omega), Int.ediv_le_self _ h⟩, fun h => ⟨(Int.le_ediv_iff_mul_le (by omega)).2 ?_, Int.ediv_neg_of_neg_of_pos h (by omega)⟩⟩
    have := Int.mul_le_mul_of_nonpos_left (show n ≤ 0 by omega) hb
    rw [Int.mul_one] at this; exact this
  unfold I64 at *
  have h1 := h a (by omega) (by omega)
  have h2 := h (-a) (by omega) (by omega)
  omega

theorem fixedDown (a b : Int) (ha : I64 a) (w : World) :
    Calls Tryd.prog 34 #[.int .i64 a, .int .i64 b] w fun e w' => e = .returned (.int .i64 (downI a b)) ∧ w = w' := by
  go_enter Tryd.func34, Tryd.ntmps34
  go_wp2
  all_goals
    go_ret
    refine ⟨ret_i64 ?_, rfl⟩
    have qf := quo_facts a b
    have qb := quo_bounds a b
    simp only [beq_iff_eq, beq_eq_false_iff_ne, downI, I64, wrap64] at *
    omega
theorem refDown (a b : Int) (ha : I64 a) (w : World) :
    Calls Tryd.prog 31 #[.int .i64 a, .int .i64 b] w fun e w' => e = .returned (.int .i64 (downI a b)) ∧ w = w' := by
  go_enter Tryd.func31, Tryd.ntmps31
  go_wp2
  all_goals
    go_ret
    refine ⟨ret_i64 ?_, rfl⟩
    have qf := quo_facts a b
    have qb := quo_bounds a b
    simp only [beq_iff_eq, beq_eq_false_iff_ne, downI, I64, wrap64] at *
    omega
theorem fixedUp (a b : Int) (ha : I64 a) (w : World) :
    Calls Tryd.prog 35 #[.int .i64 a, .int .i64 b] w fun e w' => e = .returned (.int .i64 (upI a b)) ∧ w = w' := by
  go_enter Tryd.func35, Tryd.ntmps35
  go_wp2
  all_goals
    go_ret
    refine ⟨ret_i64 ?_, rfl⟩
    have qf := quo_facts a b
    have qb := quo_bounds a b
    simp only [beq_iff_eq, beq_eq_false_iff_ne, upI, I64, wrap64] at *
    omega
theorem refUp (a b : Int) (ha : I64 a) (w : World) :
    Calls Tryd.prog 32 #[.int .i64 a, .int .i64 b] w fun e w' => e = .returned (.int .i64 (upI a b)) ∧ w = w' := by
  go_enter Tryd.func32, Tryd.ntmps32
  go_wp2
  all_goals
    go_ret
    refine ⟨ret_i64 ?_, rfl⟩
    have qf := quo_facts a b
    have qb := quo_bounds a b
    simp only [beq_iff_eq, beq_eq_false_iff_ne, upI, I64, wrap64] at *
    omega
theorem mulS (a b : Int) (h : a < 0 ↔ b < 0) : a * b = (a.natAbs : Int) * (b.natAbs : Int) ∧ 0 ≤ (a.natAbs : Int) * (b.natAbs : Int) := by
  refine ⟨?_, Int.mul_nonneg (by omega) (by omega)⟩
  by_cases h1 : a < 0
  · have e1 : (a.natAbs : Int) = -a := by omega
    have e2 : (b.natAbs : Int) = -b := by omega
    rw [e1, e2, Int.neg_mul_neg]
  · have e1 : (a.natAbs : Int) = a := by omega
    have e2 : (b.natAbs : Int) = b := by omega
    rw [e1, e2]
theorem mulD (a b : Int) (h : ¬(a < 0 ↔ b < 0)) : a * b = -((a.natAbs : Int) * (b.natAbs : Int)) ∧ 0 ≤ (a.natAbs : Int) * (b.natAbs : Int) := by
  refine ⟨?_, Int.mul_nonneg (by omega) (by omega)⟩
  by_cases h1 : a < 0
  · have e1 : (a.natAbs : Int) = -a := by omega
    have e2 : (b.natAbs : Int) = b := by omega
    rw [e1, e2, Int.neg_mul, Int.neg_neg]
  · have e1 : (a.natAbs : Int) = a := by omega
    have e2 : (b.natAbs : Int) = -b := by omega
    rw [e1, e2, Int.mul_neg, Int.neg_neg]
theorem mulSD (a b : Int) : 0 ≤ (a.natAbs : Int) * (b.natAbs : Int) ∧ ((a < 0 ∧ b < 0 ∨ 0 ≤ a ∧ 0 ≤ b) ∧ a * b = (a.natAbs : Int) * (b.natAbs : Int) ∨ (a < 0 ∧ 0 ≤ b ∨ 0 ≤ a ∧ b < 0) ∧ a * b = -((a.natAbs : Int) * (b.natAbs : Int))) := by
  by_cases h : a < 0 ↔ b < 0
  · have := mulS a b h; exact ⟨this.2, Or.inl ⟨by omega, this.1⟩⟩
  · have := mulD a b h; exact ⟨this.2, Or.inr ⟨by omega, this.1⟩⟩
theorem bool_iff1 (p q : Prop) [Decidable p] [Decidable q] : ((!decide p == decide q) = true) = ¬ (p ↔ q) := by
  by_cases p <;> by_cases q <;> simp [*]
theorem bool_iff2 (p q : Prop) [Decidable p] [Decidable q] : ((!decide p == decide q) = false) = (p ↔ q) := by
  by_cases p <;> by_cases q <;> simp [*]
theorem divF (G : Int) (x y : Int) (hy : 0 < y) : (G / y < x → G < x * y) ∧ (x ≤ G / y → x * y ≤ G) :=
  ⟨fun h => (Int.ediv_lt_iff_lt_mul hy).1 h, fun h => (Int.le_ediv_iff_mul_le hy).1 h⟩
theorem sat_in (n : Int) : I64 (sat n) := by unfold I64 sat; omega
theorem down_facts (n b : Int) (hb : 1 ≤ b) : downI n b * b ≤ n ∧ n < downI n b * b + b ∧ n ≤ upI n b * b ∧ upI n b * b < n + b ∧ (n.tmod b = 0 → upI n b = downI n b) ∧ (n.tmod b ≠ 0 → upI n b = downI n b + 1) := by
  have qf := quo_facts n b hb
  have e1 := Int.mul_ediv_add_emod n b
  have e2 := Int.mul_ediv_add_emod (-n) b
  have l1 := Int.emod_lt_of_pos n (show 0 < b by omega)
  have l2 := Int.emod_lt_of_pos (-n) (show 0 < b by omega)
  have l3 := Int.emod_nonneg n (show b ≠ 0 by omega)
  have l4 := Int.emod_nonneg (-n) (show b ≠ 0 by omega)
  have d : downI n b = n / b := by unfold downI; rw [if_neg (by omega)]
  have u : upI n b = -(-n / b) := by unfold upI; rw [if_neg (by omega)]
  rw [d, u, Int.neg_mul, Int.mul_comm (n / b) b, Int.mul_comm (-n / b) b]
  omega
theorem i64_of {a : Int} (h : (Lit.int .i64 a).wf = true) : I64 a := by
  unfold I64
  exact bounds_i64 h
end Go.Proofs.YtppomdpppidbaaaDoor
