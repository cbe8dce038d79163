/- More of a statement with two operations that write, where the second waits for the first. Conditions: none. -/
import Derived.Test.YtiiomiekjlggfaaDoorPh
namespace Go.Proofs.YtiiomiekjlggfaaDoor
open Go Go.RowKit
section
variable {P : Program} {ops : Array Oper} {md : Region.Mode} {j1 j2 : Nat} {D : Bool → Bool → World → Prop} {Q : Act → Prop} {k : Nat} {o : Oper} {l : List Oper} {a : Act}
theorem not_down {f j i : Nat} {L : Array Bool} (hd : Down md ops L) (hr : i ∈ Region.ready md ops L) (hwt : waitsB md ops f j i = true) : L.getD j false = false := by
  cases hj : L.getD j false with
  | false => rfl
  | true =>
    have := waits_down hd f _ _ hwt hj
    rw [getD_both (mem_ready.1 hr).1] at this
    cases this
/-- The first that writes, the second waits for it. -/
theorem ph_wa (f : Nat) (v : Value) (hw : Region.wanted o (yielded ops a.tmps) = true) (h1 : (k == j1) = true) (h2 : (k == j2) = false) (hk : decide (k < ops.size) = true) (hwt : waitsB md ops f j2 k = true) (hc : ∀ w, D false false w → phAt P o a (D true false) w v)
    (h : wpPh P md ops (ph2 j1 j2 D) Q (k + 1) l (a.put o.dst v)) : wpPh P md ops (ph2 j1 j2 D) Q k (o :: l) a := by
  obtain rfl : k = j1 := by simpa using h1
  refine ⟨v, .inl ⟨hw, fun L w hd hr hC => ?_⟩, h⟩
  have hj := not_down hd hr hwt
  unfold ph2 at *
  rw [getD_both (mem_ready.1 hr).1, hj] at hC
  rw [getD_set_ne false (show k ≠ j2 by simpa using h2), show (L.setIfInBounds k true).getD k false = true by simp [hd.1, of_decide_eq_true hk], hj]
  exact hc _ hC
/-- The second that writes, it waits for the first. -/
theorem ph_wb (f : Nat) (v : Value) (hw : Region.wanted o (yielded ops a.tmps) = true) (h1 : (k == j1) = false) (h2 : (k == j2) = true) (hk : decide (k < ops.size) = true) (hwt : waitsB md ops f k j1 = true) (hc : ∀ w, D true false w → phAt P o a (D true true) w v)
    (h : wpPh P md ops (ph2 j1 j2 D) Q (k + 1) l (a.put o.dst v)) : wpPh P md ops (ph2 j1 j2 D) Q k (o :: l) a := by
  obtain rfl : k = j2 := by simpa using h2
  refine ⟨v, .inl ⟨hw, fun L w hd hr hC => ?_⟩, h⟩
  have hj : L.getD j1 false = true := by
    have hall : ∀ (f j i : Nat), waitsB md ops f j i = true → j ∈ Region.ready md ops L → L.getD i false = true := by
      intro f j i hwt hr
      cases f with
      | zero => simp [waitsB] at hwt
      | succ f =>
        unfold waitsB at hwt
        split at hwt
        · cases hwt
        · rename_i o' ho'
          obtain ⟨e, he, h⟩ := Array.any_eq_true'.1 hwt
          simp only [Bool.and_eq_true, Bool.or_eq_true, beq_iff_eq] at h
          obtain ⟨_, o2, ho2, hall⟩ := mem_ready.1 hr
          obtain rfl := Option.some.inj (ho'.symm.trans ho2)
          have h3 := hall e he h.1
          rcases h.2 with rfl | h2
          · exact h3
          · exact waits_down hd f _ _ h2 h3
    exact hall f k j1 hwt hr
  unfold ph2 at *
  rw [getD_both (mem_ready.1 hr).1, hj] at hC
  rw [getD_set_ne false (show k ≠ j1 by simpa using h1), show (L.setIfInBounds k true).getD k false = true by simp [hd.1, of_decide_eq_true hk], hj]
  exact hc _ hC
theorem phAt_store {ty : TypeId} {x y : Operand} {C' : World → Prop} {w : World} (ho : o.op = .store ty x y) (p : Addr) (u : Value) (hx : a.eval x = .pointer (some p)) (hy : a.eval y = u) (hrun : (storeVar ty p u).run P w = .ok () (w.setCell p u))
    (h : C' (w.setCell p u)) : phAt P o a C' w undef := by
  unfold phAt execOp
  simp only [ho, hx, hy, Instr.storeAt, Instr.sureAddr, Sem.run_bind, Sem.run_pure, Result.andThen_ok, hrun, phUpon]
  exact ⟨trivial, h⟩
end
end Go.Proofs.YtiiomiekjlggfaaDoor
