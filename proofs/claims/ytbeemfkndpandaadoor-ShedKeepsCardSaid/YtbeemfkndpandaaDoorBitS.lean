/- Bits of small masks, as sets. Conditions: six feeders at most. -/
import Derived.Test.YtbeemfkndpandaaDoorShedS
import Derived.Laws.BitsLemmas
namespace Go.Proofs.YtbeemfkndpandaaDoor
open Go Go.RowKit
set_option linter.unusedVariables false
set_option maxRecDepth 20000
theorem i64_and1 (n : Int) : bits .and .i64 n 1 = n % 2 := by
  have h1 : (BitVec.ofInt 64 1).toNat = 2 ^ 1 - 1 := by decide
  have key : (BitVec.ofInt 64 n &&& BitVec.ofInt 64 1).toNat = (n % ((2 ^ 64 : Nat) : Int)).toNat % 2 ^ 1 := by
    rw [BitVec.toNat_and, BitVec.toNat_ofInt, h1, Nat.and_two_pow_sub_one_eq_mod]
  show IntKind.i64.wrap ((BitVec.ofInt 64 n &&& BitVec.ofInt 64 1).toNat : Nat) = n % 2
  rw [key, IntKind.wrap_i64]
  omega
theorem nat_and_pow (m i : Nat) : m &&& 2 ^ i = m / 2 ^ i % 2 * 2 ^ i := by
  have e : m / 2 ^ i % 2 * 2 ^ i = if m.testBit i then 2 ^ i else 0 := by
    rw [Nat.testBit_eq_decide_div_mod_eq]
    rcases Nat.mod_two_eq_zero_or_one (m / 2 ^ i) with h | h <;> rw [h] <;> simp
  rw [e]
  refine Nat.eq_of_testBit_eq fun j => ?_
  rw [Nat.testBit_and, Nat.testBit_two_pow]
  by_cases hj : i = j
  · subst hj
    cases h : m.testBit i
    · simp
    · simp
  · cases h : m.testBit i
    · simp [hj]
    · simp [hj]
theorem i64_andp (n : Int) (i : Nat) (h : i < 62) : bits .and .i64 n (2 ^ i) = IntKind.i64.wrap (((n % 18446744073709551616).toNat / 2 ^ i % 2 * 2 ^ i : Nat) : Int) := by
  have h1 : (BitVec.ofInt 64 (2 ^ i)).toNat = 2 ^ i := by
    rw [BitVec.toNat_ofInt]
    have : (2 : Nat) ^ i < 2 ^ 64 := Nat.pow_lt_pow_right (by omega) (by omega)
    rw [show ((2 : Int) ^ i) = ((2 ^ i : Nat) : Int) by push_cast; rfl, ← Int.natCast_emod, Int.toNat_natCast, Nat.mod_eq_of_lt this]
  have key : (BitVec.ofInt 64 n &&& BitVec.ofInt 64 (2 ^ i)).toNat = (n % 18446744073709551616).toNat / 2 ^ i % 2 * 2 ^ i := by
    rw [BitVec.toNat_and, BitVec.toNat_ofInt, h1, nat_and_pow]
    rfl
  show IntKind.i64.wrap ((BitVec.ofInt 64 n &&& BitVec.ofInt 64 (2 ^ i)).toNat : Nat) = _
  rw [key]
/-- 'want & bit == 0' and 'want >> i & 1 == 0'. -/
theorem and_bit (n : Int) (i : Nat) (h : i < 6) : (bits .and .i64 n (wrap64 (2 ^ i)) == 0) = tz n i := by
  have e : wrap64 ((2 : Int) ^ i) = 2 ^ i := by
    rcases (show i = 0 ∨ i = 1 ∨ i = 2 ∨ i = 3 ∨ i = 4 ∨ i = 5 by omega) with rfl | rfl | rfl | rfl | rfl | rfl <;> decide +kernel
  unfold tz
  rw [e, i64_andp n i (by omega), i64_and1, IntKind.wrap_i64, Bool.eq_iff_iff]
  simp only [beq_iff_eq]
  rcases (show i = 0 ∨ i = 1 ∨ i = 2 ∨ i = 3 ∨ i = 4 ∨ i = 5 by omega) with rfl | rfl | rfl | rfl | rfl | rfl
  all_goals simp only [Nat.reducePow, Int.reducePow]; omega
theorem tb_tz (n : Int) (i : Nat) : tb n i = !tz n i := by
  unfold tb tz
  rw [i64_and1]
  have h := Int.emod_two_eq (n / 2 ^ i)
  rcases h with h | h <;> rw [h] <;> rfl
/-- The mask of a set of the first n. -/
def onBV (b : Nat → Bool) : Nat → Int
  | 0 => 0
  | i + 1 => if b i then orI (onBV b i) i else onBV b i
theorem onV_set (need : Nat) (L : List Nat) (n : Nat) : onV need L n = onBV (fun i => decide (need ≤ getN L i)) n := by
  induction n with
  | zero => rfl
  | succ n ih =>
    show (if need ≤ getN L n then orI (onV need L n) n else onV need L n) = if (decide (need ≤ getN L n)) = true then _ else _
    rw [ih]
    by_cases h : need ≤ getN L n
    · rw [if_pos h, if_pos (by simpa using h)]
    · rw [if_neg h, if_neg (by simpa using h)]
theorem onBV_congr {b b' : Nat → Bool} (n : Nat) (h : ∀ j, j < n → b j = b' j) : onBV b n = onBV b' n := by
  induction n with
  | zero => rfl
  | succ n ih =>
    unfold onBV
    rw [h n (by omega), ih (fun j hj => h j (by omega))]
theorem onBV_six (b : Nat → Bool) (n : Nat) (hn : n ≤ 6) : onBV b n = onBV (fun j => b j && decide (j < n)) 6 := by
  have key : ∀ k, n + k ≤ 6 → onBV (fun j => b j && decide (j < n)) (n + k) = onBV b n := by
    intro k
    induction k with
    | zero => intro _; exact onBV_congr n fun j hj => by simp [hj]
    | succ k ih =>
      intro hk
      have e : onBV (fun j => b j && decide (j < n)) (n + k + 1) = if (b (n + k) && decide (n + k < n)) = true then orI (onBV (fun j => b j && decide (j < n)) (n + k)) (n + k) else onBV (fun j => b j && decide (j < n)) (n + k) := rfl
      rw [← Nat.add_assoc, e, if_neg (by simp), ih (by omega)]
  have := key (6 - n) (by omega)
  rw [show n + (6 - n) = 6 by omega] at this
  exact this.symm
theorem six_bits (b : Nat → Bool) : ∃ m : Fin 64, ∀ j, j < 6 → b j = m.val.testBit j := by
  have key : ∀ b0 b1 b2 b3 b4 b5 : Bool, (b0.toNat + 2 * b1.toNat + 4 * b2.toNat + 8 * b3.toNat + 16 * b4.toNat + 32 * b5.toNat).testBit 0 = b0 ∧ (b0.toNat + 2 * b1.toNat + 4 * b2.toNat + 8 * b3.toNat + 16 * b4.toNat + 32 * b5.toNat).testBit 1 = b1 ∧ (b0.toNat + 2 * b1.toNat + 4 * b2.toNat + 8 * b3.toNat + 16 * b4.toNat + 32 * b5.toNat).testBit 2 = b2 ∧ (b0.toNat + 2 * b1.toNat + 4 * b2.toNat + 8 * b3.toNat + 16 * b4.toNat + 32 * b5.toNat).testBit 3 = b3 ∧ (b0.toNat + 2 * b1.toNat + 4 * b2.toNat + 8 * b3.toNat + 16 * b4.toNat + 32 * b5.toNat).testBit 4 = b4 ∧ (b0.toNat + 2 * b1.toNat + 4 * b2.toNat + 8 * b3.toNat + 16 * b4.toNat + 32 * b5.toNat).testBit 5 = b5 ∧ b0.toNat + 2 * b1.toNat + 4 * b2.toNat + 8 * b3.toNat + 16 * b4.toNat + 32 * b5.toNat < 64 := by decide +kernel
  obtain ⟨h0, h1, h2, h3, h4, h5, hm⟩ := key (b 0) (b 1) (b 2) (b 3) (b 4) (b 5)
  refine ⟨⟨_, hm⟩, fun j hj => ?_⟩
  rcases (show j = 0 ∨ j = 1 ∨ j = 2 ∨ j = 3 ∨ j = 4 ∨ j = 5 by omega) with rfl | rfl | rfl | rfl | rfl | rfl
  · exact h0.symm
  · exact h1.symm
  · exact h2.symm
  · exact h3.symm
  · exact h4.symm
  · exact h5.symm
theorem six_val : ∀ m : Fin 64, onBV (fun j => m.val.testBit j) 6 = (m.val : Int) := by decide +kernel
theorem or_val : ∀ (m : Fin 64) (i : Fin 6), orI (m.val : Int) i.val = ((m.val ||| 2 ^ i.val : Nat) : Int) := by decide +kernel
def clrI (x : Int) (i : Nat) : Int := bits BinOp.andNot IntKind.i64 x (wrap64 (2 ^ i))
theorem clr_val : ∀ (m : Fin 64) (i : Fin 6), clrI (m.val : Int) i.val = onBV (fun j => m.val.testBit j && decide (j ≠ i.val)) 6 := by decide +kernel
theorem or_set6 : ∀ (m : Fin 64) (i : Fin 6), orI (m.val : Int) i.val = onBV (fun j => m.val.testBit j || decide (j = i.val)) 6 := by decide +kernel
/-- One bit more. -/
theorem or_set (b : Nat → Bool) (n i : Nat) (hn : n ≤ 6) (hi : i < n) : orI (onBV b n) i = onBV (fun j => b j || decide (j = i)) n := by
  rw [onBV_six b n hn, onBV_six (fun j => b j || decide (j = i)) n hn]
  obtain ⟨m, hm⟩ := six_bits (fun j => b j && decide (j < n))
  rw [onBV_congr 6 hm, six_val, or_set6 m ⟨i, by omega⟩]
  refine onBV_congr 6 fun j hj => ?_
  rw [← hm j hj]
  by_cases q : j = i
  · subst q; simp [hi]
  · simp [q]
/-- One bit less. -/
theorem clr_set (b : Nat → Bool) (n i : Nat) (hn : n ≤ 6) (hi : i < n) : clrI (onBV b n) i = onBV (fun j => b j && decide (j ≠ i)) n := by
  rw [onBV_six b n hn, onBV_six (fun j => b j && decide (j ≠ i)) n hn]
  obtain ⟨m, hm⟩ := six_bits (fun j => b j && decide (j < n))
  rw [onBV_congr 6 hm, six_val, clr_val m ⟨i, by omega⟩]
  refine onBV_congr 6 fun j hj => ?_
  rw [← hm j hj]
  by_cases q : j = i
  · subst q; simp
  · simp [q]
theorem tb_val : ∀ (m : Fin 64) (i : Fin 6), tb (m.val : Int) i.val = m.val.testBit i.val := by decide +kernel
/-- Bit i of a mask. -/
theorem tb_set (b : Nat → Bool) (n i : Nat) (hn : n ≤ 6) (hi : i < n) : tb (onBV b n) i = b i := by
  rw [onBV_six b n hn]
  obtain ⟨m, hm⟩ := six_bits (fun j => b j && decide (j < n))
  rw [onBV_congr 6 hm, six_val, tb_val m ⟨i, by omega⟩]
  show m.val.testBit i = b i
  rw [← hm i (by omega)]
  simp [hi]
theorem onBV_pos (b : Nat → Bool) (n : Nat) (hn : n ≤ 6) : 0 ≤ onBV b n ∧ onBV b n < 64 := by
  rw [onBV_six b n hn]
  obtain ⟨m, hm⟩ := six_bits (fun j => b j && decide (j < n))
  rw [onBV_congr 6 hm, six_val]
  omega
end Go.Proofs.YtbeemfkndpandaaDoor
