/- The document's number of the first field that is amiss. Conditions: none. -/
import Derived.Test.YtbeemfkndpandaaDoorConfC
import Derived.Test.YtbeemfkndpandaaDoorTabV
namespace Go.Proofs.YtbeemfkndpandaaDoor
open Go.RowKit
set_option linter.unusedVariables false
set_option maxRecDepth 20000
theorem boundR (x lo hi : Int) (w : World) : Calls Tryd.prog 48 #[.int .i64 x, .int .i64 lo, .int .i64 hi] w fun e w' => e = .returned (.bool (inB x lo hi)) ∧ w = w' := by
  unfold inB
  by_cases q : lo ≤ x
  · have g1 : decide (x ≥ lo) = true := decide_eq_true q
    have g2 : decide (lo ≤ x) = true := decide_eq_true q
    rw [g2, Bool.true_and]
    go_enter Tryd.func48, Tryd.ntmps48
    go_wp2_with fail
    go_ret
    exact ⟨rfl, rfl⟩
  · have g1 : decide (x ≥ lo) = false := decide_eq_false q
    have g2 : decide (lo ≤ x) = false := decide_eq_false q
    rw [g2, Bool.false_and]
    go_enter Tryd.func48, Tryd.ntmps48
    go_wp2_with fail
    go_ret
    exact ⟨rfl, rfl⟩
/-- There is always a verdict on points. -/
theorem firstBad (p : Nat → Bool) (n : Nat) : (∀ j, j < n → p j = true) ∨ ∃ i, i < n ∧ p i = false ∧ ∀ j, j < i → p j = true := by
  induction n with
  | zero => exact .inl fun j h => by omega
  | succ n ih =>
    rcases ih with h | ⟨i, h1, h2, h3⟩
    · by_cases q : p n = true
      · refine .inl fun j hj => ?_
        by_cases e : j = n
        · subst e; exact q
        · exact h j (by omega)
      · exact .inr ⟨n, by omega, by simpa using q, h⟩
    · exact .inr ⟨i, by omega, h2, h3⟩
theorem verdict (n : Nat) (x y : Nat → Int) : ∃ c p k, Verd n x y c p k := by
  by_cases h1 : n < 2
  · exact ⟨_, _, _, .short h1⟩
  by_cases h2 : 64 < n
  · exact ⟨_, _, _, .long h2⟩
  rcases firstBad (fun i => badAt x y i == 0) n with h | ⟨i, hi, h, hj⟩
  · exact ⟨_, _, _, .fine (by omega) (by omega) fun j q => by simpa using h j q⟩
  · exact ⟨_, _, _, .bad (by omega) (by omega) i hi (by simpa using h) fun j q => by simpa using hj j q⟩
theorem verd_fine {n : Nat} {x y : Nat → Int} {c k : Int} {p : Bool} (h : Verd n x y c p k) : c = 0 ↔ TabOk n x y := by
  constructor
  · rintro rfl; exact h.ok
  · exact h.zero
theorem refCheckK (a : Option Addr) (n cap : Nat) (hn : n < 4611686018427387904) (x y : Nat → Int) {c k : Int} {p : Bool} (hv : Verd n x y c p k) (w : World) (h : PtsG w a n x y) :
    Calls Tryd.prog 49 #[.slice a n cap] w fun e w' => e = .returned (.agg #[.int .i64 c, .bool p, .int .i64 k]) ∧ Below w.heap.size w w' := by
  refine (refCheckG a n cap hn x y w h).mono ?_
  rintro e w' ⟨c', p', k', rfl, hv', hb⟩
  obtain ⟨rfl, rfl, rfl⟩ := hv'.same hv
  exact ⟨rfl, hb⟩
end Go.Proofs.YtbeemfkndpandaaDoor
