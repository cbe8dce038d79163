/- ContactJams holds: each call returns true. Conditions: the arguments are numbers of 64 bits and a bool. -/
import Derived.Test.YtbgjfcnaiahehaaConH
namespace Go.Proofs.Ytbgjfcnaiahehaa
open Go.RowKit
set_option linter.unusedVariables false
def fr (G i : Nat) : Bool := decide (i % G = 0)
/-- How often in a row it was wrong, behind i cycles. -/
def gW (s G : Nat) : Nat → Nat
  | 0 => 0
  | i + 1 => if i % G = 0 then (if s ≤ i then gW s G i + 1 else 0) else gW s G i
/-- The first look that is wrong. -/
def f1 (s G : Nat) : Nat := (s + G - 1) / G * G
theorem gW_at (s G : Nat) (hG : G = 1 ∨ G = 2 ∨ G = 3) (i : Nat) : gW s G i = (if i ≤ f1 s G then 0 else (i - 1 - f1 s G) / G + 1) := by
  unfold f1
  induction i with
  | zero => simp [gW]
  | succ i ih =>
    unfold gW
    rw [ih]
    rcases hG with rfl | rfl | rfl
    all_goals
      repeat' split
      all_goals omega
theorem gW_before (s G L : Nat) (hG : G = 1 ∨ G = 2 ∨ G = 3) (i : Nat) (hi : i < f1 s G + (L - 1) * G) (hL : 1 ≤ L) : gW s G (i + 1) < L := by
  rw [gW_at s G hG]
  generalize f1 s G = f at *
  rcases hG with rfl | rfl | rfl
  all_goals
    split
    all_goals omega
theorem gW_end (s G L : Nat) (hG : G = 1 ∨ G = 2 ∨ G = 3) (hL : 1 ≤ L) : (f1 s G + (L - 1) * G) % G = 0 ∧ s ≤ f1 s G + (L - 1) * G ∧ gW s G (f1 s G + (L - 1) * G) + 1 = L := by
  rw [gW_at s G hG]
  have h1 : s ≤ f1 s G := by
    unfold f1
    rcases hG with rfl | rfl | rfl
    all_goals omega
  have h2 : f1 s G % G = 0 := by unfold f1; exact Nat.mul_mod_left _ _
  generalize f1 s G = f at *
  rcases hG with rfl | rfl | rfl
  all_goals
    refine ⟨by omega, by omega, ?_⟩
    split
    all_goals omega
def kJT (D L G : Nat) : Nat → CK
  | 0 => ⟨D, L, false, -2, 0, 0, false, false, false⟩
  | i + 1 => ⟨D, L, true, (i : Int), gW D G (i + 1), 0, fr G i, false, false⟩
theorem kJT_tell (D L G i : Nat) (hi : i ≤ 150) (f : Bool) : ((kJT D L G i).tell true).look 0 f = ⟨D, L, true, (i : Int), gW D G i, 0, f, false, false⟩ := by
  cases i with
  | zero => rfl
  | succ i =>
    show (⟨D, L, true, min ((i : Int) + 1) 1000, gW D G (i + 1), 0, f, false, false⟩ : CK) = _
    rw [show min ((i : Int) + 1) 1000 = (((i + 1 : Nat)) : Int) by omega]
theorem kJT_step (D L G i : Nat) (hi : i ≤ 150) (hg : gW D G (i + 1) < L) : (kJT D L G i).step true 0 (fr G i) = kJT D L G (i + 1) := by
  unfold CK.step
  rw [kJT_tell D L G i hi]
  show _ = (⟨D, L, true, (i : Int), (gW D G (i + 1) : Nat), 0, fr G i, false, false⟩ : CK)
  have hr : gW D G (i + 1) = (if i % G = 0 then (if D ≤ i then gW D G i + 1 else 0) else gW D G i) := rfl
  by_cases hf : i % G = 0
  · have e : fr G i = true := decide_eq_true hf
    rw [e]
    rw [if_pos hf] at hr
    by_cases hs : D ≤ i
    · rw [if_pos hs] at hr
      rw [judge_fresh3 _ _ rfl (by show (_ || decide ((i : Int) < (D : Int))) = false; rw [decide_eq_false (by omega)]; rfl) (by show ¬ (L : Int) ≤ (gW D G i : Int) + 1; omega), hr]
      rfl
    · rw [if_neg hs] at hr
      rw [judge_fresh1 _ _ rfl (by show (_ || decide ((i : Int) < (D : Int))) = true; rw [decide_eq_true (by omega)]; simp), hr]
      rfl
  · have e : fr G i = false := decide_eq_false hf
    rw [e]
    rw [if_neg hf] at hr
    rw [hr]
    rfl
theorem kJT_last (D L G i : Nat) (hi : i ≤ 150) (hf : i % G = 0) (hs : D ≤ i) (hg : gW D G i + 1 = L) : (kJT D L G i).step true 0 (fr G i) = ⟨D, L, true, (i : Int), (gW D G i : Int) + 1, 0, true, true, false⟩ := by
  unfold CK.step
  rw [kJT_tell D L G i hi]
  have e : fr G i = true := decide_eq_true hf
  rw [e, judge_fresh2 _ _ rfl (by show (_ || decide ((i : Int) < (D : Int))) = false; rw [decide_eq_false (by omega)]; rfl) (by show (L : Int) ≤ (gW D G i : Int) + 1; omega)]
  rfl
theorem kJT_in (D L G i : Nat) (hi : i ≤ 150) : -2 ≤ (kJT D L G i).s ∧ (kJT D L G i).s ≤ 1000 ∧ 0 ≤ (kJT D L G i).g ∧ (kJT D L G i).p = false ∧ (kJT D L G i).q = false := by
  cases i with
  | zero => exact ⟨show (-2 : Int) ≤ -2 by omega, show (-2 : Int) ≤ 1000 by omega, show (0 : Int) ≤ 0 by omega, rfl, rfl⟩
  | succ i => exact ⟨show -2 ≤ (i : Int) by omega, show (i : Int) ≤ 1000 by omega, show (0 : Int) ≤ (gW D G (i + 1) : Int) by omega, rfl, rfl⟩
theorem kJT_back (D L G i : Nat) (g : Int) (hD : 1 ≤ D) : CK.step ⟨D, L, true, (i : Int), g, 0, true, true, false⟩ false 1 true = ⟨D, L, false, 0, 0, 1, true, true, false⟩ := by
  show CK.judge ⟨D, L, false, 0, 0, 1, true, true, false⟩ false = _
  rw [judge_fresh1 _ _ rfl (by show (_ || decide ((0 : Int) < (D : Int))) = true; rw [decide_eq_true (by omega)]; simp)]
def kJF (D L G : Nat) : Nat → CK
  | 0 => ⟨D, L, false, -2, 0, 0, false, false, false⟩
  | i + 1 => ⟨D, L, false, ((i : Int) - 1), gW (D + 1) G (i + 1), 1, fr G i, false, false⟩
theorem kJF_tell (D L G i : Nat) (hi : i ≤ 150) (f : Bool) : ((kJF D L G i).tell false).look 1 f = ⟨D, L, false, ((i : Int) - 1), gW (D + 1) G i, 1, f, false, false⟩ := by
  cases i with
  | zero => rfl
  | succ i =>
    show (⟨D, L, false, min (((i : Int) - 1) + 1) 1000, gW (D + 1) G (i + 1), 1, f, false, false⟩ : CK) = _
    rw [show min (((i : Int) - 1) + 1) 1000 = ((((i + 1 : Nat)) : Int) - 1) by omega]
theorem kJF_step (D L G i : Nat) (hi : i ≤ 150) (hg : gW (D + 1) G (i + 1) < L) : (kJF D L G i).step false 1 (fr G i) = kJF D L G (i + 1) := by
  unfold CK.step
  rw [kJF_tell D L G i hi]
  show _ = (⟨D, L, false, ((i : Int) - 1), (gW (D + 1) G (i + 1) : Nat), 1, fr G i, false, false⟩ : CK)
  have hr : gW (D + 1) G (i + 1) = (if i % G = 0 then (if (D + 1) ≤ i then gW (D + 1) G i + 1 else 0) else gW (D + 1) G i) := rfl
  by_cases hf : i % G = 0
  · have e : fr G i = true := decide_eq_true hf
    rw [e]
    rw [if_pos hf] at hr
    by_cases hs : (D + 1) ≤ i
    · rw [if_pos hs] at hr
      rw [judge_fresh3 _ _ rfl (by show (_ || decide (((i : Int) - 1) < (D : Int))) = false; rw [decide_eq_false (by omega)]; rfl) (by show ¬ (L : Int) ≤ (gW (D + 1) G i : Int) + 1; omega), hr]
      rfl
    · rw [if_neg hs] at hr
      rw [judge_fresh1 _ _ rfl (by show (_ || decide (((i : Int) - 1) < (D : Int))) = true; rw [decide_eq_true (by omega)]; simp), hr]
      rfl
  · have e : fr G i = false := decide_eq_false hf
    rw [e]
    rw [if_neg hf] at hr
    rw [hr]
    rfl
theorem kJF_last (D L G i : Nat) (hi : i ≤ 150) (hf : i % G = 0) (hs : (D + 1) ≤ i) (hg : gW (D + 1) G i + 1 = L) : (kJF D L G i).step false 1 (fr G i) = ⟨D, L, false, ((i : Int) - 1), (gW (D + 1) G i : Int) + 1, 1, true, false, true⟩ := by
  unfold CK.step
  rw [kJF_tell D L G i hi]
  have e : fr G i = true := decide_eq_true hf
  rw [e, judge_fresh2 _ _ rfl (by show (_ || decide (((i : Int) - 1) < (D : Int))) = false; rw [decide_eq_false (by omega)]; rfl) (by show (L : Int) ≤ (gW (D + 1) G i : Int) + 1; omega)]
  rfl
theorem kJF_in (D L G i : Nat) (hi : i ≤ 150) : -2 ≤ (kJF D L G i).s ∧ (kJF D L G i).s ≤ 1000 ∧ 0 ≤ (kJF D L G i).g ∧ (kJF D L G i).p = false ∧ (kJF D L G i).q = false := by
  cases i with
  | zero => exact ⟨show (-2 : Int) ≤ -2 by omega, show (-2 : Int) ≤ 1000 by omega, show (0 : Int) ≤ 0 by omega, rfl, rfl⟩
  | succ i => exact ⟨show -2 ≤ ((i : Int) - 1) by omega, show ((i : Int) - 1) ≤ 1000 by omega, show (0 : Int) ≤ (gW (D + 1) G (i + 1) : Int) by omega, rfl, rfl⟩
theorem kJF_back (D L G i : Nat) (g : Int) (hD : 1 ≤ D) : CK.step ⟨D, L, false, ((i : Int) - 1), g, 1, true, false, true⟩ true 0 true = ⟨D, L, true, 0, 0, 0, true, false, true⟩ := by
  show CK.judge ⟨D, L, true, 0, 0, 0, true, false, true⟩ true = _
  rw [judge_fresh1 _ _ rfl (by show (_ || decide ((0 : Int) < (D : Int))) = true; rw [decide_eq_true (by omega)]; simp)]
theorem gW_le (s G i : Nat) : gW s G i ≤ i := by
  induction i with
  | zero => exact Nat.le_refl _
  | succ i ih => unfold gW; repeat' split
                 all_goals omega
theorem tmod_fr (i G : Nat) : ((i : Int).tmod (G : Int) == 0) = fr G i := by
  rw [Int.tmod_eq_emod_of_nonneg (by omega)]
  unfold fr
  by_cases h : i % G = 0
  · rw [decide_eq_true h, beq_iff_eq]; exact_mod_cast h
  · rw [decide_eq_false h, beq_eq_false_iff_ne]; exact_mod_cast h
end Go.Proofs.Ytbgjfcnaiahehaa
