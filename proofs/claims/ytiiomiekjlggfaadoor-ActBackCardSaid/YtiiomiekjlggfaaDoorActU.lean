/- ActUnlike: unlike things that are put out have unlike frames. Conditions: the seven errors lie apart. -/
import Derived.Test.YtiiomiekjlggfaaDoorActS
import Derived.Laws.BitsLemmas
namespace Go.Proofs.YtiiomiekjlggfaaDoor
open Go Go.RowKit
set_option linter.unusedVariables false
set_option maxRecDepth 20000
theorem mask_i64 (k : Nat) (hk : k < 60) (n : Int) : bits .and .i64 n (2 ^ k - 1) = n % 2 ^ k := by
  have hp : (2 : Nat) ^ k < 2 ^ 60 := Nat.pow_lt_pow_right (by omega) hk
  have hp0 : 0 < (2 : Nat) ^ k := Nat.pow_pos (by omega)
  have e0 : ((2 : Int) ^ k - 1) = ((2 ^ k - 1 : Nat) : Int) := by
    have : ((2 ^ k : Nat) : Int) = (2 : Int) ^ k := by push_cast; rfl
    omega
  have e1 : (BitVec.ofInt 64 ((2 : Int) ^ k - 1)).toNat = 2 ^ k - 1 := by
    rw [e0, BitVec.ofInt_natCast, BitVec.toNat_ofNat, Nat.mod_eq_of_lt (by omega)]
  have key : (BitVec.ofInt 64 n &&& BitVec.ofInt 64 ((2 : Int) ^ k - 1)).toNat = (n % 18446744073709551616).toNat % 2 ^ k := by
    rw [BitVec.toNat_and, e1, Nat.and_two_pow_sub_one_eq_mod, BitVec.toNat_ofInt]
    rfl
  have e2 : ((n % 18446744073709551616).toNat % 2 ^ k : Nat) = n % 2 ^ k := by
    rw [Int.natCast_emod, Int.toNat_of_nonneg (Int.emod_nonneg _ (by omega))]
    have hd : ((2 ^ k : Nat) : Int) ∣ 18446744073709551616 := by
      refine ⟨((2 ^ (64 - k) : Nat) : Int), ?_⟩
      rw [← Int.natCast_mul, ← Nat.pow_add, show k + (64 - k) = 64 by omega]
      rfl
    rw [Int.emod_emod_of_dvd _ hd]
    have : ((2 ^ k : Nat) : Int) = (2 : Int) ^ k := by push_cast; rfl
    rw [this]
  show IntKind.i64.wrap ((BitVec.ofInt 64 n &&& BitVec.ofInt 64 ((2 : Int) ^ k - 1)).toNat : Nat) = _
  rw [key, e2]
  refine IntWalk.i64_in _ ?_
  have h1 := Int.emod_nonneg n (show (2 : Int) ^ k ≠ 0 by have : ((2 ^ k : Nat) : Int) = (2 : Int) ^ k := by push_cast; rfl
                                                          omega)
  have h2 := Int.emod_lt_of_pos n (show (0 : Int) < 2 ^ k by have : ((2 ^ k : Nat) : Int) = (2 : Int) ^ k := by push_cast; rfl
                                                             omega)
  have : ((2 ^ k : Nat) : Int) = (2 : Int) ^ k := by push_cast; rfl
  omega
theorem m127 (n : Int) : bits .and .i64 n 127 = n % 128 := mask_i64 7 (by omega) n
theorem m65535 (n : Int) : bits .and .i64 n 65535 = n % 65536 := mask_i64 16 (by omega) n
theorem m3 (n : Int) : bits .and .i64 n 3 = n % 4 := mask_i64 2 (by omega) n
theorem m7 (n : Int) : bits .and .i64 n 7 = n % 8 := mask_i64 3 (by omega) n
theorem m511 (n : Int) : bits .and .i64 n 511 = n % 512 := mask_i64 9 (by omega) n
theorem m255 (n : Int) : bits .and .i64 n 255 = n % 256 := mask_i64 8 (by omega) n
/-- Seven bytes are the same where the five numbers are. -/
theorem same7 (a b c d e a2 b2 c2 d2 e2 : Int) (h : goodO a b c d e = true) (h2 : goodO a2 b2 c2 d2 e2 = true) :
    sameB 7 7 (pF a b c d e) (pF a2 b2 c2 d2 e2) = ((a == a2) && ((b == b2) && ((c == c2) && ((d == d2) && (e == e2))))) := by
  have g := (goodO_is a b c d e).1 h
  have g2 := (goodO_is a2 b2 c2 d2 e2).1 h2
  unfold sameB
  rw [show List.range 7 = [0, 1, 2, 3, 4, 5, 6] from rfl, Bool.eq_iff_iff]
  simp only [List.all_cons, List.all_nil, Bool.and_true, pF, Bool.and_eq_true, beq_iff_eq, decide_eq_true_eq]
  simp
  omega
end Go.Proofs.YtiiomiekjlggfaaDoor
