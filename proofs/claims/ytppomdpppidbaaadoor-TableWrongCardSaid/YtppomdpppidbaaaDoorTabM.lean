/- A right table's line rises; the first number that is so. Conditions: the table is right. -/
import Derived.Test.YtppomdpppidbaaaDoorTabA
namespace Go.Proofs.YtppomdpppidbaaaDoor
open Go.RowKit
set_option linter.unusedVariables false
theorem seg_ex (x : Nat → Int) (v : Int) : ∀ (f a : Nat), ¬ x (a + f) < v → ∃ i, a ≤ i ∧ i ≤ a + f ∧ ¬ x i < v ∧ ∀ k, a ≤ k → k < i → x k < v
  | 0, a, h => ⟨a, Nat.le_refl _, Nat.le_refl _, h, fun k h1 h2 => by omega⟩
  | f + 1, a, h => by
    by_cases h0 : x a < v
    · obtain ⟨i, h1, h2, h3, h4⟩ := seg_ex x v f (a + 1) (by rw [show a + 1 + f = a + (f + 1) by omega]; exact h)
      refine ⟨i, by omega, by omega, h3, fun k h5 h6 => ?_⟩
      by_cases h7 : k = a
      · rw [h7]; exact h0
      · exact h4 k (by omega) h6
    · exact ⟨a, Nat.le_refl _, by omega, h0, fun k h1 h2 => by omega⟩
theorem TabOk.xle {n : Nat} {x y : Nat → Int} (T : TabOk n x y) {i : Nat} : ∀ (d : Nat), i + d < n → x i + d ≤ x (i + d) ∧ y i ≤ y (i + d)
  | 0, h => by simp
  | d + 1, h => by
    have h1 := T.xle (i := i) d (by omega)
    have h2 := T.mx (i + d) (by omega)
    have h3 := T.my (i + d) (by omega)
    rw [show i + (d + 1) = i + d + 1 by omega]
    omega
theorem TabOk.mono {n : Nat} {x y : Nat → Int} (T : TabOk n x y) {i j : Nat} (h : i ≤ j) (hj : j < n) : x i ≤ x j ∧ y i ≤ y j ∧ (i < j → x i < x j) := by
  obtain ⟨d, rfl⟩ : ∃ d, j = i + d := ⟨j - i, by omega⟩
  have := T.xle d hj
  exact ⟨by omega, this.2, fun _ => by omega⟩
theorem at_seg {m : Nat} {x y : Nat → Int} (T : TabOk (m + 1) x y) (v : Int) :
    (v ≤ x 0 ∧ atLo (m + 1) x y v = y 0 ∧ atHi (m + 1) x y v = y 0) ∨ (x 0 < v ∧ x m ≤ v ∧ atLo (m + 1) x y v = y m ∧ atHi (m + 1) x y v = y m) ∨
    (∃ i, i + 1 ≤ m ∧ x i < v ∧ v ≤ x (i + 1) ∧ x 0 < v ∧ v < x m ∧ atLo (m + 1) x y v = y i + downI ((v - x i) * (y (i + 1) - y i)) (x (i + 1) - x i) ∧ atHi (m + 1) x y v = y i + upI ((v - x i) * (y (i + 1) - y i)) (x (i + 1) - x i)) := by
  by_cases h1 : v ≤ x 0
  · exact .inl ⟨h1, by unfold atLo; rw [if_pos h1], by unfold atHi; rw [if_pos h1]⟩
  by_cases h2 : x m ≤ v
  · exact .inr (.inl ⟨by omega, h2, by unfold atLo; rw [if_neg h1]; exact if_pos h2, by unfold atHi; rw [if_neg h1]; exact if_pos h2⟩)
  refine .inr (.inr ?_)
  have n2 := T.n2
  obtain ⟨i, a1, a2, a3, a4⟩ := seg_ex x v (m - 1) 1 (by rw [show 1 + (m - 1) = m by omega]; omega)
  have e := segF_eq a3 (m + 1) 1 a1 (by omega) a4
  obtain ⟨k, rfl⟩ : ∃ k, i = k + 1 := ⟨i - 1, by omega⟩
  refine ⟨k, by omega, ?_, by omega, by omega, by omega, ?_, ?_⟩
  · by_cases h : k = 0
    · subst h; omega
    · exact a4 k (by omega) (by omega)
  · unfold atLo
    rw [if_neg h1, if_neg (show ¬ x (m + 1 - 1) ≤ v from h2), e]
    rfl
  · unfold atHi
    rw [if_neg h1, if_neg (show ¬ x (m + 1 - 1) ≤ v from h2), e]
    rfl
theorem down_mono {a b r : Int} (h : a ≤ b) (hr : 1 ≤ r) : downI a r ≤ downI b r ∧ upI a r ≤ upI b r := by
  unfold downI upI
  rw [if_neg (by omega), if_neg (by omega), if_neg (by omega), if_neg (by omega)]
  have h1 := Int.ediv_le_ediv (show 0 < r by omega) h
  have h2 := Int.ediv_le_ediv (show 0 < r by omega) (show -b ≤ -a by omega)
  omega
theorem down_le_up (a r : Int) (hr : 1 ≤ r) : downI a r ≤ upI a r ∧ upI a r ≤ downI a r + 1 := by
  have := down_facts a r hr
  obtain ⟨h1, h2, h3, h4, h5, h6⟩ := this
  by_cases h : a.tmod r = 0
  · rw [h5 h]; omega
  · rw [h6 h]; omega
theorem at_in {m : Nat} {x y : Nat → Int} (T : TabOk (m + 1) x y) (v : Int) :
    y 0 ≤ atLo (m + 1) x y v ∧ atLo (m + 1) x y v ≤ atHi (m + 1) x y v ∧ atHi (m + 1) x y v ≤ y m ∧ atHi (m + 1) x y v ≤ atLo (m + 1) x y v + 1 := by
  have h0 := T.mono (Nat.zero_le m) (by omega)
  rcases at_seg T v with ⟨h1, e1, e2⟩ | ⟨h1, h2, e1, e2⟩ | ⟨i, h1, h2, h3, h4, h5, e1, e2⟩
  · rw [e1, e2]; omega
  · rw [e1, e2]; omega
  · have a1 := T.mono (Nat.zero_le i) (by omega)
    have a2 := T.mono (show i + 1 ≤ m by omega) (by omega)
    have a3 := T.mono (Nat.le_succ i) (by omega)
    have pf := part_facts (v - x i) (y (i + 1) - y i) (x (i + 1) - x i) (by omega) (by omega) (by simp only [Nat.succ_eq_add_one] at a3; omega) (by omega)
    have du := down_le_up ((v - x i) * (y (i + 1) - y i)) (x (i + 1) - x i) (by omega)
    rw [e1, e2]
    simp only [Nat.succ_eq_add_one] at a3
    omega
theorem at_mono {m : Nat} {x y : Nat → Int} (T : TabOk (m + 1) x y) {v u : Int} (h : v ≤ u) : atLo (m + 1) x y v ≤ atLo (m + 1) x y u ∧ atHi (m + 1) x y v ≤ atHi (m + 1) x y u := by
  have iv := at_in T v
  have iu := at_in T u
  rcases at_seg T v with ⟨h1, e1, e2⟩ | ⟨h1, h2, e1, e2⟩ | ⟨i, h1, h2, h3, h4, h5, e1, e2⟩
  · rw [e1, e2] at *; omega
  · rcases at_seg T u with ⟨g1, f1, f2⟩ | ⟨g1, g2, f1, f2⟩ | ⟨j, g1, g2, g3, g4, g5, f1, f2⟩
    · omega
    · rw [e1, e2, f1, f2]; omega
    · omega
  · rcases at_seg T u with ⟨g1, f1, f2⟩ | ⟨g1, g2, f1, f2⟩ | ⟨j, g1, g2, g3, g4, g5, f1, f2⟩
    · omega
    · rw [f1, f2] at *; omega
    · have a3 := T.mono (Nat.le_succ i) (by omega)
      have b3 := T.mono (Nat.le_succ j) (by omega)
      simp only [Nat.succ_eq_add_one] at a3 b3
      by_cases hij : i = j
      · subst hij
        have l1 : (v - x i) * (y (i + 1) - y i) ≤ (u - x i) * (y (i + 1) - y i) := Int.mul_le_mul_of_nonneg_right (by omega) (by omega)
        have l2 := down_mono l1 (show 1 ≤ x (i + 1) - x i by omega)
        rw [e1, e2, f1, f2]; omega
      · have lt : i < j := by
          rcases Nat.lt_or_ge i j with q | q
          · exact q
          · have := T.mono (show j + 1 ≤ i by omega) (by omega)
            omega
        have c3 := T.mono (show i + 1 ≤ j by omega) (by omega)
        have pf := part_facts (v - x i) (y (i + 1) - y i) (x (i + 1) - x i) (by omega) (by omega) (by omega) (by omega)
        have pg := part_facts (u - x j) (y (j + 1) - y j) (x (j + 1) - x j) (by omega) (by omega) (by omega) (by omega)
        rw [e1, e2, f1, f2]; omega
/-- The first from lo on that is so, of k; lo + k: none. -/
def firstI (so : Int → Bool) (lo : Int) : Nat → Int
  | 0 => lo
  | k + 1 => if so lo then lo else firstI so (lo + 1) k
theorem first_spec (so : Int → Bool) : ∀ (k : Nat) (lo : Int), lo ≤ firstI so lo k ∧ firstI so lo k ≤ lo + k ∧ (∀ j, lo ≤ j → j < firstI so lo k → so j = false) ∧ (firstI so lo k < lo + k → so (firstI so lo k) = true)
  | 0, lo => ⟨by unfold firstI; omega, by unfold firstI; omega, fun j h1 h2 => by unfold firstI at h2; omega, fun h => by unfold firstI at h; omega⟩
  | k + 1, lo => by
    obtain ⟨h1, h2, h3, h4⟩ := first_spec so k (lo + 1)
    unfold firstI
    cases hs : so lo
    · simp only [Bool.false_eq_true, if_false]
      refine ⟨by omega, by omega, fun j g1 g2 => ?_, fun g => h4 (by omega)⟩
      by_cases g : j = lo
      · rw [g]; exact hs
      · exact h3 j (by omega) g2
    · simp only [if_true]
      exact ⟨by omega, by omega, fun j g1 g2 => by omega, fun _ => hs⟩
theorem first_eq {so : Int → Bool} {k : Nat} {lo r : Int} (h1 : lo ≤ r) (h2 : r ≤ lo + k) (h3 : ∀ j, lo ≤ j → j < r → so j = false) (h4 : r < lo + k → so r = true) : firstI so lo k = r := by
  obtain ⟨g1, g2, g3, g4⟩ := first_spec so k lo
  rcases Int.lt_trichotomy (firstI so lo k) r with h | h | h
  · have a := g4 (by omega); have b := h3 _ g1 h; rw [a] at b; cases b
  · exact h
  · have a := h4 (by omega); have b := g3 _ h1 h; rw [a] at b; cases b
/-- Where a table's line reaches v; where it has passed it. -/
def reachI (n : Nat) (x y : Nat → Int) (v : Int) : Int := firstI (fun c => decide (v ≤ atHi n x y c)) (x 0) (x (n - 1) + 1 - x 0).toNat
def passI (n : Nat) (x y : Nat → Int) (v : Int) : Int := firstI (fun c => decide (v < atLo n x y c)) (x 0) (x (n - 1) + 1 - x 0).toNat
def backLo (n : Nat) (x y : Nat → Int) (v : Int) : Int := min (min (reachI n x y v) (x (n - 1))) (max (passI n x y v - 1) (x 0))
def backHi (n : Nat) (x y : Nat → Int) (v : Int) : Int := max (min (reachI n x y v) (x (n - 1))) (max (passI n x y v - 1) (x 0))
theorem back_in {m : Nat} {x y : Nat → Int} (T : TabOk (m + 1) x y) (v : Int) :
    x 0 ≤ backLo (m + 1) x y v ∧ backLo (m + 1) x y v ≤ backHi (m + 1) x y v ∧ backHi (m + 1) x y v ≤ x m := by
  have h0 := T.mono (Nat.zero_le m) (by omega)
  have h1 := first_spec (fun c => decide (v ≤ atHi (m + 1) x y c)) (x m + 1 - x 0).toNat (x 0)
  have h2 := first_spec (fun c => decide (v < atLo (m + 1) x y c)) (x m + 1 - x 0).toNat (x 0)
  have e1 : reachI (m + 1) x y v = firstI (fun c => decide (v ≤ atHi (m + 1) x y c)) (x 0) (x m + 1 - x 0).toNat := rfl
  have e2 : passI (m + 1) x y v = firstI (fun c => decide (v < atLo (m + 1) x y c)) (x 0) (x m + 1 - x 0).toNat := rfl
  rw [← e1] at h1
  rw [← e2] at h2
  unfold backLo backHi
  simp only [Nat.add_sub_cancel]
  obtain ⟨a1, a2, -⟩ := h1
  obtain ⟨b1, b2, -⟩ := h2
  omega
theorem reach_pass {m : Nat} {x y : Nat → Int} (T : TabOk (m + 1) x y) (v : Int) :
    x 0 ≤ reachI (m + 1) x y v ∧ reachI (m + 1) x y v ≤ x m + 1 ∧ x 0 ≤ passI (m + 1) x y v ∧ passI (m + 1) x y v ≤ x m + 1 := by
  have h0 := T.mono (Nat.zero_le m) (by omega)
  have h1 := first_spec (fun c => decide (v ≤ atHi (m + 1) x y c)) (x m + 1 - x 0).toNat (x 0)
  have h2 := first_spec (fun c => decide (v < atLo (m + 1) x y c)) (x m + 1 - x 0).toNat (x 0)
  have e1 : reachI (m + 1) x y v = firstI (fun c => decide (v ≤ atHi (m + 1) x y c)) (x 0) (x m + 1 - x 0).toNat := rfl
  have e2 : passI (m + 1) x y v = firstI (fun c => decide (v < atLo (m + 1) x y c)) (x 0) (x m + 1 - x 0).toNat := rfl
  rw [← e1] at h1
  rw [← e2] at h2
  obtain ⟨a1, a2, -⟩ := h1
  obtain ⟨b1, b2, -⟩ := h2
  omega
theorem back_holds {m : Nat} {x y : Nat → Int} (T : TabOk (m + 1) x y) {v u q : Int} (h1 : x 0 ≤ q) (h2 : q ≤ x m) (hv : v ≤ atHi (m + 1) x y q) (hu : atLo (m + 1) x y q ≤ u) :
    backLo (m + 1) x y v ≤ q ∧ q ≤ backHi (m + 1) x y u := by
  have h0 := T.mono (Nat.zero_le m) (by omega)
  obtain ⟨a1, a2, a3, a4⟩ := first_spec (fun c => decide (v ≤ atHi (m + 1) x y c)) (x m + 1 - x 0).toNat (x 0)
  obtain ⟨b1, b2, b3, b4⟩ := first_spec (fun c => decide (u < atLo (m + 1) x y c)) (x m + 1 - x 0).toNat (x 0)
  have e1 : reachI (m + 1) x y v = firstI (fun c => decide (v ≤ atHi (m + 1) x y c)) (x 0) (x m + 1 - x 0).toNat := rfl
  have e2 : passI (m + 1) x y u = firstI (fun c => decide (u < atLo (m + 1) x y c)) (x 0) (x m + 1 - x 0).toNat := rfl
  rw [← e1] at a1 a2 a3 a4
  rw [← e2] at b1 b2 b3 b4
  have r1 : reachI (m + 1) x y v ≤ q := by
    rcases Int.lt_or_le q (reachI (m + 1) x y v) with h | h
    · have := of_decide_eq_false (a3 q h1 h)
      omega
    · exact h
  have r2 : q < passI (m + 1) x y u := by
    rcases Int.lt_or_le q (passI (m + 1) x y u) with h | h
    · exact h
    · have p1 := of_decide_eq_true (b4 (by omega))
      have p2 := (at_mono T h).1
      omega
  unfold backLo backHi
  simp only [Nat.add_sub_cancel]
  omega
theorem back_mono {m : Nat} {x y : Nat → Int} (T : TabOk (m + 1) x y) {v u : Int} (h : v ≤ u) : backLo (m + 1) x y v ≤ backLo (m + 1) x y u ∧ backHi (m + 1) x y v ≤ backHi (m + 1) x y u := by
  have h0 := T.mono (Nat.zero_le m) (by omega)
  have sp := fun v => first_spec (fun c => decide (v ≤ atHi (m + 1) x y c)) (x m + 1 - x 0).toNat (x 0)
  have sq := fun u => first_spec (fun c => decide (u < atLo (m + 1) x y c)) (x m + 1 - x 0).toNat (x 0)
  have e1 : ∀ v, reachI (m + 1) x y v = firstI (fun c => decide (v ≤ atHi (m + 1) x y c)) (x 0) (x m + 1 - x 0).toNat := fun _ => rfl
  have e2 : ∀ u, passI (m + 1) x y u = firstI (fun c => decide (u < atLo (m + 1) x y c)) (x 0) (x m + 1 - x 0).toNat := fun _ => rfl
  have r1 : reachI (m + 1) x y v ≤ reachI (m + 1) x y u := by
    obtain ⟨a1, a2, a3, a4⟩ := sp v
    obtain ⟨b1, b2, b3, b4⟩ := sp u
    rw [← e1] at a1 a2 a3 a4 b1 b2 b3 b4
    rcases Int.lt_or_le (reachI (m + 1) x y u) (reachI (m + 1) x y v) with g | g
    · have p1 := of_decide_eq_true (b4 (by omega))
      have p2 := of_decide_eq_false (a3 _ b1 g)
      omega
    · exact g
  have r2 : passI (m + 1) x y v ≤ passI (m + 1) x y u := by
    obtain ⟨a1, a2, a3, a4⟩ := sq v
    obtain ⟨b1, b2, b3, b4⟩ := sq u
    rw [← e2] at a1 a2 a3 a4 b1 b2 b3 b4
    rcases Int.lt_or_le (passI (m + 1) x y u) (passI (m + 1) x y v) with g | g
    · have p1 := of_decide_eq_true (b4 (by omega))
      have p2 := of_decide_eq_false (a3 _ b1 g)
      omega
    · exact g
  unfold backLo backHi
  simp only [Nat.add_sub_cancel]
  omega
theorem reach_le {m : Nat} {x y : Nat → Int} (T : TabOk (m + 1) x y) (v : Int) {c : Int} (h1 : x 0 ≤ c) (h2 : c ≤ x m) : (v ≤ atHi (m + 1) x y c ↔ reachI (m + 1) x y v ≤ c) := by
  obtain ⟨a1, a2, a3, a4⟩ := first_spec (fun c => decide (v ≤ atHi (m + 1) x y c)) (x m + 1 - x 0).toNat (x 0)
  have e1 : reachI (m + 1) x y v = firstI (fun c => decide (v ≤ atHi (m + 1) x y c)) (x 0) (x m + 1 - x 0).toNat := rfl
  rw [← e1] at a1 a2 a3 a4
  constructor
  · intro h
    rcases Int.lt_or_le c (reachI (m + 1) x y v) with g | g
    · have := of_decide_eq_false (a3 c h1 g)
      omega
    · exact g
  · intro h
    have p1 := of_decide_eq_true (a4 (by omega))
    have p2 := (at_mono T h).2
    omega
theorem pass_le {m : Nat} {x y : Nat → Int} (T : TabOk (m + 1) x y) (v : Int) {c : Int} (h1 : x 0 ≤ c) (h2 : c ≤ x m) : (v < atLo (m + 1) x y c ↔ passI (m + 1) x y v ≤ c) := by
  obtain ⟨a1, a2, a3, a4⟩ := first_spec (fun c => decide (v < atLo (m + 1) x y c)) (x m + 1 - x 0).toNat (x 0)
  have e1 : passI (m + 1) x y v = firstI (fun c => decide (v < atLo (m + 1) x y c)) (x 0) (x m + 1 - x 0).toNat := rfl
  rw [← e1] at a1 a2 a3 a4
  constructor
  · intro h
    rcases Int.lt_or_le c (passI (m + 1) x y v) with g | g
    · have := of_decide_eq_false (a3 c h1 g)
      omega
    · exact g
  · intro h
    have p1 := of_decide_eq_true (a4 (by omega))
    have p2 := (at_mono T h).1
    omega
/-- What the document's own walk over the points comes to. -/
theorem at_walk {m : Nat} {x y : Nat → Int} (T : TabOk (m + 1) x y) (v u : Int) (i : Nat) (hu : u = clampI v (x 0) (x m)) (h1 : i + 1 ≤ m) (h2 : ∀ k, 1 ≤ k → k ≤ i → x k < u) (h3 : i + 1 = m ∨ u ≤ x (i + 1)) :
    y i + downI ((y (i + 1) - y i) * (u - x i)) (x (i + 1) - x i) = atLo (m + 1) x y v ∧ y i + upI ((y (i + 1) - y i) * (u - x i)) (x (i + 1) - x i) = atHi (m + 1) x y v := by
  have h0 := T.mono (Nat.zero_le m) (by omega)
  have a3 := T.mono (Nat.le_succ i) (by omega)
  simp only [Nat.succ_eq_add_one] at a3
  have hc : u = if (if x m < v then x m else v) < x 0 then x 0 else (if x m < v then x m else v) := hu
  have dv := down_facts ((y (i + 1) - y i) * (x (i + 1) - x i)) (x (i + 1) - x i) (by omega)
  rcases at_seg T v with ⟨g1, e1, e2⟩ | ⟨g1, g2, e1, e2⟩ | ⟨j, g1, g2, g3, g4, g5, e1, e2⟩
  · have hi : i = 0 := by
      by_cases h : i = 0
      · exact h
      · have := h2 i (by omega) (Nat.le_refl _)
        have := T.mono (Nat.zero_le i) (by omega)
        omega
    subst hi
    have : u - x 0 = 0 := by omega
    rw [this, Int.mul_zero, e1, e2]
    unfold downI upI
    rw [if_neg (by omega), if_neg (by omega)]
    simp
  · have hu2 : u = x m := by omega
    have hi : i + 1 = m := by
      rcases h3 with h | h
      · exact h
      · by_cases h4 : i + 1 = m
        · exact h4
        · have := (T.mono (show i + 1 ≤ m from h1) (by omega)).2.2 (by omega)
          omega
    rw [hi] at dv a3 ⊢
    rw [hu2, e1, e2]
    have hw : x m - x i ≠ 0 := by omega
    have q1 : (y m - y i) * (x m - x i) / (x m - x i) = y m - y i := Int.mul_ediv_cancel _ hw
    have q2 : -((y m - y i) * (x m - x i)) / (x m - x i) = -(y m - y i) := by rw [← Int.neg_mul]; exact Int.mul_ediv_cancel _ hw
    unfold downI upI
    rw [if_neg (by omega), if_neg (by omega), q1, q2]
    omega
  · have hu2 : u = v := by omega
    have hxi : x i < v := by
      by_cases h : i = 0
      · subst h; exact g4
      · have := h2 i (by omega) (Nat.le_refl _); omega
    have hxj : v ≤ x (i + 1) := by
      rcases h3 with h | h
      · rw [h]; omega
      · omega
    have hij : i = j := by
      rcases Nat.lt_trichotomy i j with h | h | h
      · have := T.mono (show i + 1 ≤ j by omega) (by omega); omega
      · exact h
      · have := T.mono (show j + 1 ≤ i by omega) (by omega); omega
    subst hij
    rw [hu2, e1, e2, Int.mul_comm (y (i + 1) - y i)]
    exact ⟨rfl, rfl⟩
end Go.Proofs.YtppomdpppidbaaaDoor
