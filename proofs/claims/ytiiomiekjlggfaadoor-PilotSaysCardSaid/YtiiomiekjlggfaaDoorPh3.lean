/- More of a statement with two operations that write: what comes up behind both of them. Conditions: none. -/
import Derived.Test.YtiiomiekjlggfaaDoorPh2
namespace Go.Proofs.YtiiomiekjlggfaaDoor
open Go Go.RowKit
section
variable {P : Program} {ops : Array Oper} {md : Region.Mode} {j1 j2 : Nat} {D : Bool → Bool → World → Prop} {Q : Act → Prop} {k : Nat} {o : Oper} {l : List Oper} {a : Act} {E : World → World}
/-- What is ready has seen what it waits for. -/
theorem wait_up {L : Array Bool} (hd : Down md ops L) : ∀ (f j i : Nat), waitsB md ops f j i = true → j ∈ Region.ready md ops L → L.getD i false = true := by
  intro f j i hwt hr
  cases f with
  | zero => simp [waitsB] at hwt
  | succ f =>
    unfold waitsB at hwt
    split at hwt
    · cases hwt
    · rename_i o' ho'
      obtain ⟨e, he, h⟩ := Array.any_eq_true'.1 hwt
      simp only [Bool.and_eq_true, Bool.or_eq_true, beq_iff_eq] at h
      obtain ⟨_, o2, ho2, hall⟩ := mem_ready.1 hr
      obtain rfl := Option.some.inj (ho'.symm.trans ho2)
      have h3 := hall e he h.1
      rcases h.2 with rfl | h2
      · exact h3
      · exact waits_down hd f _ _ h2 h3
theorem both_up {f1 f2 : Nat} {L : Array Bool} {w : World} (hd : Down md ops L) (hr : k ∈ Region.ready md ops L) (w1 : waitsB md ops f1 k j1 = true) (w2 : waitsB md ops f2 k j2 = true) (h : ph2 j1 j2 D L w) : D true true w := by
  unfold ph2 at h
  rwa [wait_up hd f1 k j1 w1 hr, wait_up hd f2 k j2 w2 hr] at h
/-- What only reads, behind both. -/
theorem ph_valw (f1 f2 : Nat) (hE : ∀ w, D true true w → ∃ d, w = E d) (hw : Region.wanted o (yielded ops a.tmps) = true) (hv : isVal o = true) (h1 : (k == j1) = false) (h2 : (k == j2) = false)
    (w1 : waitsB md ops f1 k j1 = true) (w2 : waitsB md ops f2 k j2 = true)
    (h : ∀ K : Act → Prop, (∀ a, wpPh P md ops (ph2 j1 j2 D) Q (k + 1) l a → K a) → o.quiet P a (fun w => ∃ d, w = E d) K) : wpPh P md ops (ph2 j1 j2 D) Q k (o :: l) a := by
  obtain ⟨v, h3, h4⟩ := h _ fun _ h => h
  exact ⟨v, .inl ⟨hw, fun L w hd hr hC => phAt_of_quiet hv (h3 w (hE _ (both_up hd hr w1 w2 hC))) (ph2_other (by simpa using h1) (by simpa using h2) hC)⟩, h4⟩
/-- A call that only reads, behind both. -/
theorem ph_callw (f1 f2 : Nat) (v : Value) (hw : Region.wanted o (yielded ops a.tmps) = true) (h1 : (k == j1) = false) (h2 : (k == j2) = false) (w1 : waitsB md ops f1 k j1 = true) (w2 : waitsB md ops f2 k j2 = true)
    (hc : ∀ w, D true true w → phAt P o a (D true true) w v) (h : wpPh P md ops (ph2 j1 j2 D) Q (k + 1) l (a.put o.dst v)) : wpPh P md ops (ph2 j1 j2 D) Q k (o :: l) a := by
  refine ⟨v, .inl ⟨hw, fun L w hd hr hC => ?_⟩, h⟩
  have e := hc w (both_up hd hr w1 w2 hC)
  unfold phAt phUpon at *
  have key : ∀ w', D true true w' → ph2 j1 j2 D (L.setIfInBounds k true) w' := fun w' hw' => by
    refine ph2_other (by simpa using h1) (by simpa using h2) ?_
    unfold ph2
    rwa [wait_up hd f1 k j1 w1 hr, wait_up hd f2 k j2 w2 hr]
  split at e
  · exact ⟨e.1, key _ e.2⟩
  · exact ⟨e.1, key _ e.2⟩
  · exact e.mono fun e' w'' h => ⟨h.1, key _ h.2⟩
  · exact e
theorem pick_twoR {R : World → Prop} {w0 : World} (h : ∀ b c w, D b c w → R w) : ∀ b c w, D b c w → ∃ d, w = pickE R w0 d :=
  fun b c w hd => ⟨w, by unfold pickE; rw [if_pos (h b c w hd)]⟩
theorem pick_both {R : World → Prop} {w0 : World} (h : ∀ w, D true true w → R w) : ∀ w, D true true w → ∃ d, w = pickE R w0 d :=
  fun w hd => ⟨w, by unfold pickE; rw [if_pos (h w hd)]⟩
end
end Go.Proofs.YtiiomiekjlggfaaDoor
