/- Lines and steps: where they stand, between which places they stand at a height. Conditions: the numbers are small. -/
import Derived.Test.YtppomdpppidbaaaDoorTabG
namespace Go.Proofs.YtppomdpppidbaaaDoor
open Go.RowKit
set_option linter.unusedVariables false
theorem part_exact (c W S : Int) (hW : 1 ≤ W) : downI (c * (W * S)) W = c * S ∧ upI (c * (W * S)) W = c * S := by
  have e : c * (W * S) = c * S * W := by rw [Int.mul_comm W S, Int.mul_assoc]
  unfold downI upI
  rw [if_neg (by omega), if_neg (by omega), e, Int.mul_ediv_cancel _ (by omega), ← Int.neg_mul, Int.mul_ediv_cancel _ (by omega)]
  exact ⟨rfl, by omega⟩
theorem line_at {X Y W S : Int} (T : TabOk 2 (f2 X (X + W)) (f2 Y (Y + W * S))) (hW : 1 ≤ W) {c : Int} (h1 : 0 ≤ c) (h2 : c ≤ W) :
    atLo 2 (f2 X (X + W)) (f2 Y (Y + W * S)) (X + c) = Y + c * S ∧ atHi 2 (f2 X (X + W)) (f2 Y (Y + W * S)) (X + c) = Y + c * S := by
  rcases at_seg (m := 1) T (X + c) with ⟨g1, e1, e2⟩ | ⟨g1, g2, e1, e2⟩ | ⟨i, g1, g2, g3, g4, g5, e1, e2⟩
  · simp only [f2] at g1 e1 e2
    have hc : c = 0 := by omega
    subst hc
    exact ⟨e1.trans (by simp), e2.trans (by simp)⟩
  · simp only [f2] at g1 g2 e1 e2
    have hc : c = W := by omega
    subst hc
    exact ⟨e1, e2⟩
  · have hi : i = 0 := by omega
    subst hi
    simp only [f2] at g2 g3 e1 e2
    have p := part_exact c W S hW
    rw [show X + c - X = c by omega, show Y + W * S - Y = W * S by omega, show X + W - X = W by omega] at e1 e2
    rw [p.1] at e1
    rw [p.2] at e2
    exact ⟨e1, e2⟩
theorem line_back0 {X Y W : Int} (T : TabOk 2 (f2 X (X + W)) (f2 Y (Y + W * 0))) (hW : 1 ≤ W) :
    backLo 2 (f2 X (X + W)) (f2 Y (Y + W * 0)) Y = X ∧ backHi 2 (f2 X (X + W)) (f2 Y (Y + W * 0)) Y = X + W := by
  have l0 := line_at T hW (c := 0) (by omega) (by omega)
  have l1 := line_at T hW (c := W) (by omega) (by omega)
  obtain ⟨r1, r2, p1, p2⟩ := reach_pass (m := 1) T Y
  have a0 := reach_le (m := 1) T Y (c := X + 0) (by simp only [f2]; omega) (by simp only [f2]; omega)
  have b1 := pass_le (m := 1) T Y (c := X + W) (by simp only [f2]; omega) (by simp only [f2]; omega)
  simp only [f2, Nat.reduceAdd] at r1 r2 p1 p2
  simp only [Nat.reduceAdd] at a0 b1
  rw [l0.2] at a0
  rw [l1.1] at b1
  unfold backLo backHi
  simp only [f2, Nat.reduceSub]
  rw [show Y + 0 * 0 = Y by omega] at a0
  rw [show Y + W * 0 = Y by omega] at *
  generalize reachI 2 (f2 X (X + W)) (f2 Y Y) Y = rr at *
  generalize passI 2 (f2 X (X + W)) (f2 Y Y) Y = pp at *
  omega
theorem line_back {X Y W S : Int} (T : TabOk 2 (f2 X (X + W)) (f2 Y (Y + W * S))) (hW : 1 ≤ W) (hS : 1 ≤ S) {c : Int} (h1 : 0 ≤ c) (h2 : c ≤ W) :
    backLo 2 (f2 X (X + W)) (f2 Y (Y + W * S)) (Y + c * S) = X + c ∧ backHi 2 (f2 X (X + W)) (f2 Y (Y + W * S)) (Y + c * S) = X + c := by
  have l0 := line_at T hW (c := c) h1 h2
  obtain ⟨r1, r2, p1, p2⟩ := reach_pass (m := 1) T (Y + c * S)
  have a0 := reach_le (m := 1) T (Y + c * S) (c := X + c) (by simp only [f2]; omega) (by simp only [f2]; omega)
  have b0 := pass_le (m := 1) T (Y + c * S) (c := X + c) (by simp only [f2]; omega) (by simp only [f2]; omega)
  have a1 : 0 < c → ¬ reachI 2 (f2 X (X + W)) (f2 Y (Y + W * S)) (Y + c * S) ≤ X + (c - 1) := fun h => by
    have l := line_at T hW (c := c - 1) (by omega) (by omega)
    have a := reach_le (m := 1) T (Y + c * S) (c := X + (c - 1)) (by simp only [f2]; omega) (by simp only [f2]; omega)
    simp only [Nat.reduceAdd] at a
    rw [l.2, Int.sub_mul] at a
    intro h
    have := a.2 h
    omega
  have b1 : c < W → passI 2 (f2 X (X + W)) (f2 Y (Y + W * S)) (Y + c * S) ≤ X + (c + 1) := fun h => by
    have l := line_at T hW (c := c + 1) (by omega) (by omega)
    have a := pass_le (m := 1) T (Y + c * S) (c := X + (c + 1)) (by simp only [f2]; omega) (by simp only [f2]; omega)
    simp only [Nat.reduceAdd] at a
    rw [l.1, Int.add_mul] at a
    exact a.1 (by omega)
  simp only [f2, Nat.reduceAdd] at r1 r2 p1 p2
  simp only [Nat.reduceAdd] at a0 b0
  rw [l0.2] at a0
  rw [l0.1] at b0
  unfold backLo backHi
  simp only [f2, Nat.reduceSub]
  generalize reachI 2 (f2 X (X + W)) (f2 Y (Y + W * S)) (Y + c * S) = rr at *
  generalize passI 2 (f2 X (X + W)) (f2 Y (Y + W * S)) (Y + c * S) = pp at *
  omega
theorem step_back {X Y W U : Int} (T : TabOk 3 (f3 X (X + W) (X + 2 * W)) (f3 Y Y (Y + U * W))) (hW : 1 ≤ W) (hU : 1 ≤ U) (hUW : 1 ≤ U * W) :
    (backLo 3 (f3 X (X + W) (X + 2 * W)) (f3 Y Y (Y + U * W)) Y = X ∧ backHi 3 (f3 X (X + W) (X + 2 * W)) (f3 Y Y (Y + U * W)) Y = X + W) ∧
    (backLo 3 (f3 X (X + W) (X + 2 * W)) (f3 Y Y (Y + U * W)) (Y - 1) = X ∧ backHi 3 (f3 X (X + W) (X + 2 * W)) (f3 Y Y (Y + U * W)) (Y - 1) = X) ∧
    (backLo 3 (f3 X (X + W) (X + 2 * W)) (f3 Y Y (Y + U * W)) (Y + U * W + 1) = X + 2 * W ∧ backHi 3 (f3 X (X + W) (X + 2 * W)) (f3 Y Y (Y + U * W)) (Y + U * W + 1) = X + 2 * W) := by
  have s0 : atLo 3 (f3 X (X + W) (X + 2 * W)) (f3 Y Y (Y + U * W)) X = Y ∧ atHi 3 (f3 X (X + W) (X + 2 * W)) (f3 Y Y (Y + U * W)) X = Y := by
    rcases at_seg (m := 2) T X with ⟨g1, e1, e2⟩ | ⟨g1, g2, e1, e2⟩ | ⟨i, g1, g2, g3, g4, g5, e1, e2⟩
    · exact ⟨e1, e2⟩
    · simp only [f3] at g1; omega
    · simp only [f3] at g4; omega
  have s1 : atLo 3 (f3 X (X + W) (X + 2 * W)) (f3 Y Y (Y + U * W)) (X + W) = Y := by
    rcases at_seg (m := 2) T (X + W) with ⟨g1, e1, e2⟩ | ⟨g1, g2, e1, e2⟩ | ⟨i, g1, g2, g3, g4, g5, e1, e2⟩
    · exact e1
    · simp only [f3] at g2; omega
    · match i, g1 with
      | 0, _ =>
        simp only [f3] at e1
        rw [show Y - Y = 0 by omega, Int.mul_zero] at e1
        rw [e1]
        unfold downI
        rw [if_neg (by omega)]
        simp
      | 1, _ => simp only [f3] at g2; omega
  have s2 : Y < atLo 3 (f3 X (X + W) (X + 2 * W)) (f3 Y Y (Y + U * W)) (X + W + 1) := by
    rcases at_seg (m := 2) T (X + W + 1) with ⟨g1, e1, e2⟩ | ⟨g1, g2, e1, e2⟩ | ⟨i, g1, g2, g3, g4, g5, e1, e2⟩
    · simp only [f3] at g1; omega
    · rw [e1]; simp only [f3]; omega
    · match i, g1 with
      | 0, _ => simp only [f3] at g3; omega
      | 1, _ =>
        simp only [f3] at e1
        have p := (part_exact 1 W U hW).1
        rw [show X + W + 1 - (X + W) = 1 by omega, show Y + U * W - Y = U * W by omega, show X + 2 * W - (X + W) = W by omega, Int.mul_comm U W, p] at e1
        rw [Int.mul_comm U W, e1]; omega
  have s3 : atLo 3 (f3 X (X + W) (X + 2 * W)) (f3 Y Y (Y + U * W)) (X + 2 * W) = Y + U * W ∧ atHi 3 (f3 X (X + W) (X + 2 * W)) (f3 Y Y (Y + U * W)) (X + 2 * W) = Y + U * W := by
    rcases at_seg (m := 2) T (X + 2 * W) with ⟨g1, e1, e2⟩ | ⟨g1, g2, e1, e2⟩ | ⟨i, g1, g2, g3, g4, g5, e1, e2⟩
    · simp only [f3] at g1; omega
    · exact ⟨e1, e2⟩
    · simp only [f3] at g5; omega
  have rp := fun v => reach_pass (m := 2) T v
  have rl := fun v c h1 h2 => reach_le (m := 2) T v (c := c) h1 h2
  have pl := fun v c h1 h2 => pass_le (m := 2) T v (c := c) h1 h2
  simp only [f3, Nat.reduceAdd] at rp rl pl
  have r1 := rl Y X (by omega) (by omega)
  have r2 := pl Y (X + W) (by omega) (by omega)
  have r3 := pl Y (X + W + 1) (by omega) (by omega)
  have r4 := rl (Y - 1) X (by omega) (by omega)
  have r5 := pl (Y - 1) X (by omega) (by omega)
  have r6 := rl (Y + U * W + 1) (X + 2 * W) (by omega) (by omega)
  have r7 := pl (Y + U * W + 1) (X + 2 * W) (by omega) (by omega)
  rw [s0.2] at r1 r4
  rw [s1] at r2
  rw [s0.1] at r5
  rw [s3.2] at r6
  rw [s3.1] at r7
  have q1 := rp Y
  have q2 := rp (Y - 1)
  have q3 := rp (Y + U * W + 1)
  unfold backLo backHi
  simp only [f3, Nat.reduceSub]
  clear rp rl pl s0 s1 s3
  generalize reachI 3 (f3 X (X + W) (X + 2 * W)) (f3 Y Y (Y + U * W)) Y = a1 at *
  generalize passI 3 (f3 X (X + W) (X + 2 * W)) (f3 Y Y (Y + U * W)) Y = a2 at *
  generalize reachI 3 (f3 X (X + W) (X + 2 * W)) (f3 Y Y (Y + U * W)) (Y - 1) = a3 at *
  generalize passI 3 (f3 X (X + W) (X + 2 * W)) (f3 Y Y (Y + U * W)) (Y - 1) = a4 at *
  generalize reachI 3 (f3 X (X + W) (X + 2 * W)) (f3 Y Y (Y + U * W)) (Y + U * W + 1) = a5 at *
  generalize passI 3 (f3 X (X + W) (X + 2 * W)) (f3 Y Y (Y + U * W)) (Y + U * W + 1) = a6 at *
  generalize U * W = UW at *
  omega
end Go.Proofs.YtppomdpppidbaaaDoor
