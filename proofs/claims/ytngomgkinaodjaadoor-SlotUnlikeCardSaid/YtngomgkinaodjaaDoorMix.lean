/- A statement whose order Go leaves open, with calls that write in one forced order among operations that only read: what reads is taken first, each call is met where nothing else may come up. Conditions: none. -/
import Derived.Test.YtngomgkinaodjaaDoorPh
import Derived.Test.YtngomgkinaodjaaDoorPre
import Derived.Deep.RegionHeld3
namespace Go.Proofs.YtngomgkinaodjaaDoor
open Go Go.RowKit
section
variable {P : Program} {l rest : List Oper} {md : Region.Mode} {S : World → Prop} {Q : Exit → Act → World → Prop} {fuel : Nat} {listed : Array Bool} {a : Act} {w : World} {o : Oper}
theorem at_drop {i : Nat} (h : l.drop i = o :: rest) : l.toArray[i]? = some o := by
  rw [List.getElem?_toArray, ← List.head?_drop, h]; rfl
theorem mix_quiet (i : Nat) (hd : l.drop i = o :: rest) (hs : Region.noSelect l.toArray = true) (hf : Region.free md l.toArray listed i = true) (hr : (Region.ready md l.toArray listed).contains i = true)
    (hw : Region.wanted o (yielded l.toArray a.tmps) = true) (hv : isVal o = true) (hS : S w)
    (h : ∀ K : Act → Prop, (∀ a, wpAnyH P md l.toArray (NoPanic Q) S fuel (listed.setIfInBounds i true) a w → K a) → o.quiet P a S K) : wpAnyH P md l.toArray (NoPanic Q) S (fuel + 1) listed a w := by
  obtain ⟨v, h1, h2⟩ := h _ fun _ h => h
  refine wpAnyH_take (at_drop hd) hs hf hr (fun _ _ _ h => (h : False).elim) (v := v) (.inl ⟨hw, fun w' hS' => ?_⟩) hS h2
  have := h1 w' hS'
  unfold Oper.quietAt at this
  cases hr : (execOp a.eval o).run P w' with
  | ok n w'' =>
    obtain ⟨u, rfl⟩ := val_run hv hr
    rw [hr] at this
    obtain ⟨rfl, rfl⟩ := this
    rfl
  | halt x w'' =>
    rw [hr] at this
    exact this.elim
theorem mix_val (i : Nat) (v : Value) (hd : l.drop i = o :: rest) (hs : Region.noSelect l.toArray = true) (hf : Region.free md l.toArray listed i = true) (hr : (Region.ready md l.toArray listed).contains i = true)
    (hw : Region.wanted o (yielded l.toArray a.tmps) = true) (hS : S w) (hy : ∀ w, S w → (execOp a.eval o).run P w = .ok (.value v) w)
    (h : wpAnyH P md l.toArray (NoPanic Q) S fuel (listed.setIfInBounds i true) (a.put o.dst v) w) : wpAnyH P md l.toArray (NoPanic Q) S (fuel + 1) listed a w :=
  wpAnyH_take (at_drop hd) hs hf hr (fun _ _ _ h => (h : False).elim) (.inl ⟨hw, hy⟩) hS h
theorem mix_skip (i : Nat) (hd : l.drop i = o :: rest) (hs : Region.noSelect l.toArray = true) (hf : Region.free md l.toArray listed i = true) (hr : (Region.ready md l.toArray listed).contains i = true)
    (hw : Region.wanted o (yielded l.toArray a.tmps) = false) (hS : S w)
    (h : wpAnyH P md l.toArray (NoPanic Q) S fuel (listed.setIfInBounds i true) (a.put o.dst undef) w) : wpAnyH P md l.toArray (NoPanic Q) S (fuel + 1) listed a w :=
  wpAnyH_take (at_drop hd) hs hf hr (fun _ _ _ h => (h : False).elim) (.inr ⟨hw, rfl⟩) hS h
theorem mix_one (i : Nat) (hd : l.drop i = o :: rest) (hr : Region.ready md l.toArray listed = [i])
    (h : ∀ R : Exit → Act → World → Prop, (∀ a w', S w' ∧ wpAnyH P md l.toArray (NoPanic Q) S fuel (listed.setIfInBounds i true) a w' → R .normal a w') → wpList P l.toArray R [o] a w) : wpAnyH P md l.toArray (NoPanic Q) S (fuel + 1) listed a w := by
  refine wpAnyH_all hr (by simp) fun j hj => ?_
  have : j = i := by simpa using hj
  subst this
  have h := h (fun e a w' => e = .normal ∧ S w' ∧ wpAnyH P md l.toArray (NoPanic Q) S fuel (listed.setIfInBounds j true) a w') (fun a w' h => ⟨rfl, h⟩)
  unfold wpOp
  simp only [at_drop hd]
  unfold wpList at h
  have hR : ∀ (e : Exit) (a : Act) (w' : World), (e = .normal ∧ S w' ∧ wpAnyH P md l.toArray (NoPanic Q) S fuel (listed.setIfInBounds j true) a w') → e = .normal := fun _ _ _ h => h.1
  split at h
  · rename_i hw
    rw [if_pos hw]
    rcases h with h | ⟨h1, a', w', h2⟩
    · exact .inl (Oper.wp_mono (fun a' w' h' => h'.2) (wp_no (Q := NoPanic Q) hR h))
    · exact absurd (hR _ _ _ h2) (by simp)
  · rename_i hw
    rw [if_neg hw]
    exact h.2
theorem mix_done (hr : Region.ready md l.toArray listed = []) (h : Q .normal a w) : wpAnyH P md l.toArray (NoPanic Q) S fuel listed a w := wpAnyH_done hr (NoPanic.normal h) fuel
theorem wp_region_mix {id : Nat} {l : List Oper} (S : World → Prop) (hm : P.follows .mixedOrders = true)
    (h : wpAnyH P .any l.toArray (NoPanic Q) S l.length (Array.replicate l.length false) a w.drew) : (Code.region id l.toArray true).wp P Q a w :=
  wp_region_noPanic (wp_region_held hm (by simpa using h))
end
end Go.Proofs.YtngomgkinaodjaaDoor
