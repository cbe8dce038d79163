/- A statement whose order Go leaves open, and whose calls make memory of their own: one walk in the order of the text serves every order. Conditions: what was there before the statement is only read. -/
import Derived.Test.YtngomgkinaodjaaDoorRows
import Derived.WalkKit
import Derived.ProofKit
import Derived.Handy
import Derived.Deep.QuietTactic
import Derived.BigQuiet
import Derived.Below
import Derived.Lib.Hide
namespace Go.Proofs.YtngomgkinaodjaaDoor
open Go.RowKit

open Classical in
/-- Any world that agrees with w0 below B; each other name stands for w0 itself. -/
noncomputable def reach (B : Nat) (w0 d : World) : World := if Below B w0 d then d else w0
theorem reach_below (B : Nat) (w0 d : World) : Below B w0 (reach B w0 d) := by
  unfold reach; split
  · assumption
  · exact Below.refl _ _
theorem reach_of {B : Nat} {w0 d : World} (h : Below B w0 d) : reach B w0 d = d := by
  unfold reach; rw [if_pos h]
instance : Nonempty World := ⟨default⟩
theorem reach_size (B : Nat) (w0 d : World) (h : B ≤ w0.heap.size) : B ≤ (reach B w0 d).heap.size := Nat.le_trans h (reach_below B w0 d).size
theorem reach_cell {B : Nat} {w0 : World} {b o : Nat} {v : Value} (h : w0.cell? ⟨b, o, none⟩ = some v) (hb : b < B) (d : World) : (reach B w0 d).cell? ⟨b, o, none⟩ = some v :=
  ((reach_below B w0 d).cell (p := ⟨b, o, none⟩) hb).trans h
/-- A call that leaves all that was there as it was leaves such a world. -/
theorem reach_call {P : Program} {f : FuncId} {args : Array Value} {B : Nat} {w0 d : World} {v : Value} (hB : B ≤ w0.heap.size)
    (h : Calls P f args (reach B w0 d) fun e w' => e = .returned v ∧ Below (reach B w0 d).heap.size (reach B w0 d) w') :
    Calls P f args (reach B w0 d) fun e w'' => e = .returned v ∧ ∃ d', w'' = reach B w0 d' :=
  h.mono fun _ w' ⟨he, hb⟩ => ⟨he, w', (reach_of ((reach_below B w0 d).trans (hb.mono (reach_size B w0 d hB)))).symm⟩
theorem reach_call0 {P : Program} {f : FuncId} {args : Array Value} {B : Nat} {w0 d : World} {v : Value}
    (h : Calls P f args (reach B w0 d) fun e w' => e = .returned v ∧ reach B w0 d = w') :
    Calls P f args (reach B w0 d) fun e w'' => e = .returned v ∧ ∃ d', w'' = reach B w0 d' :=
  h.mono fun _ _ ⟨he, hb⟩ => ⟨he, d, hb.symm⟩
theorem wp_region_reach {P : Program} {id : Nat} {Q : Exit → Act → World → Prop} {a : Act} {w : World} {l : List Oper} (B : Nat) (hm : P.follows .mixedOrders = true) (hB : Region.lexB .any l.toArray = true)
    (h : wpQuiet P l.toArray (fun w' => ∃ d, w' = reach B w d) (fun a' => ∀ w', (∃ d, w' = reach B w d) → Q .normal a' w') l a) : (Code.region id l.toArray true).wp P Q a w :=
  wp_region_quiet (C := fun w' => ∃ d, w' = reach B w d) hm hB ⟨w.drew, (reach_of ((Below.refl B w).drew)).symm⟩ (by simpa using h)
end Go.Proofs.YtngomgkinaodjaaDoor
