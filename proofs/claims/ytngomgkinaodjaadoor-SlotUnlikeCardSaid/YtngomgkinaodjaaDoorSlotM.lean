/- Unlike records of two sorts have unlike bytes. Conditions: they may be. -/
import Derived.Test.YtngomgkinaodjaaDoorSlotS
namespace Go.Proofs.YtngomgkinaodjaaDoor
open Go Go.RowKit
set_option linter.unusedVariables false
set_option maxRecDepth 20000
def rf (s m p : Int) : Nat → Int := fun i => (recS s m 0 0 p 0 0).getD i 0
theorem recS_len (seq mode locks a b c d : Int) : (recS seq mode locks a b c d).length = 44 := by
  unfold recS
  rw [List.length_append, recQ_len, beL_len]
theorem rf_byt {w : World} {base : Nat} {va : Option Addr} {vc : Nat} {t : TypeId} {s m p : Int} (h : w.ownsRow base t 1 (.slice va 44 vc) 44 (u8s (recS s m 0 0 p 0 0))) : Byt w va 44 (rf s m p) := by
  intro i hi
  obtain ⟨g, rfl⟩ : ∃ g, va = some ⟨g, 0, none⟩ := by
    rcases h.2 with ⟨_, h0⟩ | ⟨g, cap, cur, hv, _⟩
    · omega
    · cases hv; exact ⟨g, rfl⟩
  have hl : i < (recS s m 0 0 p 0 0).length := by rw [recS_len]; exact hi
  refine ⟨_, rfl, h.cells (g := g) rfl i _ ?_⟩
  unfold u8s rf
  simp [List.getD, hl]
theorem rf_at (s m p : Int) : rf s m p 1 = s / 2 ^ (8 * 3) % 256 ∧ rf s m p 2 = s / 2 ^ (8 * 2) % 256 ∧ rf s m p 3 = s / 2 ^ (8 * 1) % 256 ∧ rf s m p 4 = s / 2 ^ (8 * 0) % 256 ∧ rf s m p 5 = m ∧ rf s m p 24 = p / 2 ^ (8 * 1) % 256 ∧ rf s m p 25 = p / 2 ^ (8 * 0) % 256 := ⟨rfl, rfl, rfl, rfl, rfl, rfl, rfl⟩
theorem rf_same (s m p s2 m2 p2 : Int) (h1 : 0 ≤ s ∧ s < 4294967296) (h2 : 0 ≤ s2 ∧ s2 < 4294967296) (h3 : 0 ≤ p ∧ p < 1000) (h4 : 0 ≤ p2 ∧ p2 < 1000) :
    sameB 44 44 (rf s m p) (rf s2 m2 p2) = ((s == s2) && ((m == m2) && (((0 : Int) == 0) && ((((0 : Int) == 0) && (p == p2)) && (((0 : Int) == 0) && ((0 : Int) == 0)))))) := by
  rw [Bool.eq_iff_iff]
  constructor
  · intro h
    unfold sameB at h
    simp only [decide_true, Bool.true_and, List.all_eq_true, List.mem_range, beq_iff_eq] at h
    obtain ⟨a1, a2, a3, a4, a5, a6, a7⟩ := rf_at s m p
    obtain ⟨b1, b2, b3, b4, b5, b6, b7⟩ := rf_at s2 m2 p2
    have e1 := h 1 (by omega)
    have e2 := h 2 (by omega)
    have e3 := h 3 (by omega)
    have e4 := h 4 (by omega)
    have e5 := h 5 (by omega)
    have e6 := h 24 (by omega)
    have e7 := h 25 (by omega)
    rw [a1, b1] at e1
    rw [a2, b2] at e2
    rw [a3, b3] at e3
    rw [a4, b4] at e4
    rw [a5, b5] at e5
    rw [a6, b6] at e6
    rw [a7, b7] at e7
    simp only [Nat.reduceMul, Int.reducePow] at e1 e2 e3 e4 e6 e7
    have f1 : s = s2 := by omega
    have f2 : p = p2 := by omega
    subst f1 f2 e5
    simp
  · intro h
    simp only [Bool.and_eq_true, beq_iff_eq] at h
    obtain ⟨rfl, rfl, _, ⟨_, rfl⟩, _⟩ := h
    unfold sameB
    simp
end Go.Proofs.YtngomgkinaodjaaDoor
