/- A statement whose order Go leaves open, but not that of its first operations: those are walked one by one, and may write; behind them one walk in the order of the text serves every order. Conditions: none. -/
import Derived.Test.YtngomgkinaodjaaDoorTail
import Derived.Test.YtngomgkinaodjaaDoorReach
namespace Go.Proofs.YtngomgkinaodjaaDoor
open Go Go.RowKit
section
variable {P : Program} {ops : Array Oper} {md : Region.Mode}
theorem wp_no {o : Oper} {a : Act} {w : World} {K : Act → World → Prop} {R Q : Exit → Act → World → Prop} (hR : ∀ e a w, R e a w → e = .normal) (h : o.wp P a w K R) : o.wp P a w K Q := by
  unfold Oper.wp at *
  generalize (execOp a.eval o).run P w = r at *
  cases r with
  | ok n w' =>
    cases n with
    | enter f args =>
      refine Calls.mono h ?_
      intro e w'' h'
      cases e with
      | returned v => exact h'
      | panicked c => exact absurd (hR _ _ _ h') (by simp)
      | outgrown => obtain ⟨a, w, h''⟩ := h'; exact absurd (hR _ _ _ h'') (by simp)
    | _ => exact h
  | halt s w' =>
    cases s with
    | panic v => exact absurd (hR _ _ _ h) (by simp)
    | _ => exact h
def preB (md : Region.Mode) (ops : Array Oper) (g : Nat) : Nat → Nat → Array Bool → Bool
  | 0, k, listed => Region.lexFrom md ops g k listed
  | f + 1, k, listed => decide (Region.ready md ops listed = [k]) && preB md ops g f (k + 1) (listed.setIfInBounds k true)
theorem wpAny_of_pre {R Q : Exit → Act → World → Prop} {g : Nat} (hR : ∀ e a w, R e a w → e = .normal) : ∀ (l : List Oper) (k : Nat) (listed : Array Bool) (a : Act) (w : World), (∀ j, j < l.length → l[j]? = ops[k + j]?) →
    preB md ops g l.length k listed = true → wpList P ops R l a w → (∀ listed a w, Region.lexFrom md ops g (k + l.length) listed = true → R .normal a w → wpAny P md ops Q g listed a w) → wpAny P md ops Q (l.length + g) listed a w
  | [], k, listed, a, w, hl, hB, h, hK => by
    simp only [List.length_nil, Nat.zero_add, Nat.add_zero] at *
    exact hK _ _ _ hB h
  | o :: l, k, listed, a, w, hl, hB, h, hK => by
    have h0 : ops[k]? = some o := by simpa using (hl 0 (by simp)).symm
    simp only [List.length_cons, preB, Bool.and_eq_true, decide_eq_true_eq] at hB
    rw [show (o :: l).length + g = (l.length + g) + 1 by simp; omega]
    refine ⟨fun h1 => (by rw [hB.1] at h1; cases h1), fun i hi => ?_⟩
    rw [hB.1] at hi
    have hik : i = k := by simpa using hi
    subst hik
    have hw : wpOp P ops Q i (wpList P ops R l) a w := by
      unfold wpOp
      simp only [h0]
      unfold wpList at h
      split at h
      · rename_i hw
        rw [if_pos hw]
        rcases h with h | ⟨h1, a', w', h2⟩
        · exact .inl (wp_no hR h)
        · exact absurd (hR _ _ _ h2) (by simp)
      · rename_i hw
        rw [if_neg hw]
        exact h
    exact wpOp_mono (fun a' w' h' => wpAny_of_pre hR l (i + 1) _ a' w' (fun j hj => by have := hl (j + 1) (by simp; omega); simpa [Nat.add_assoc, Nat.add_comm 1 j] using this) hB.2 h'
      (fun l' a'' w'' h1 h2 => hK l' a'' w'' (by simpa [Nat.add_assoc, Nat.add_comm 1] using h1) h2)) hw
theorem wp_region_pre {id : Nat} {Q : Exit → Act → World → Prop} {a : Act} {w : World} {l : List Oper} (p : Nat) (hm : P.follows .mixedOrders = true) (hsel : Region.noSelect l.toArray = true) (hp : p ≤ l.length)
    (hB : preB .any l.toArray (l.length - p) p 0 (Array.replicate l.toArray.size false) = true)
    (h : ∀ R : Exit → Act → World → Prop, (∀ a w', wpQuiet P l.toArray (fun w'' => ∃ d, w'' = reach w'.heap.size w' d) (fun a' => ∀ w'', (∃ d, w'' = reach w'.heap.size w' d) → Q .normal a' w'') (l.drop p) a → R .normal a w') → wpList P l.toArray R (l.take p) a w.drew) :
    (Code.region id l.toArray true).wp P Q a w := by
  refine wp_region_any hm ?_
  have htl : (l.take p).length = p := by simp; omega
  have hdl : (l.drop p).length = l.length - p := by simp
  have := wpAny_of_pre (md := .any) (P := P) (ops := l.toArray) (Q := Q) (g := l.length - p) (R := fun e a w' => e = .normal ∧ wpQuiet P l.toArray (fun w'' => ∃ d, w'' = reach w'.heap.size w' d) (fun a' => ∀ w'', (∃ d, w'' = reach w'.heap.size w' d) → Q .normal a' w'') (l.drop p) a)
    (fun e a w h => h.1) (l.take p) 0 (Array.replicate l.toArray.size false) a w.drew (fun j hj => by
      have hj' : j < p := by rw [htl] at hj; exact hj
      simp [hj']) (by rw [htl]; exact hB) (h _ (fun a w' h => ⟨rfl, h⟩)) (fun listed a w' h1 h2 => by
      refine wpAny_of_quiet (C := fun w'' => ∃ d, w'' = reach w'.heap.size w' d) (Q := fun a' => ∀ w'', (∃ d, w'' = reach w'.heap.size w' d) → Q .normal a' w'') (fun _ w' hw' h => h w' hw') _ _ _ _ ⟨w', (reach_of (Below.refl _ w')).symm⟩ ?_
      have := wpAnyQ_lex (P := P) (C := fun w'' => ∃ d, w'' = reach w'.heap.size w' d) (md := .any) (ops := l.toArray) hsel (l.drop p) p listed a (fun j => by simp [List.getElem?_drop]) (by rw [hdl]; rw [htl, Nat.zero_add] at h1; exact h1) h2.2
      rwa [hdl] at this)
  rw [htl, show p + (l.length - p) = l.toArray.size by simp; omega] at this
  exact this
end
end Go.Proofs.YtngomgkinaodjaaDoor
