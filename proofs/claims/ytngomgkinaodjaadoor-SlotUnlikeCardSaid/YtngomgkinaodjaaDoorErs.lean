/- The seven errors lie apart in memory, as the program's text lays them. No other condition. -/
import Derived.Test.YtngomgkinaodjaaDoorRows
import Derived.Test.YtngomgkinaodjaaDoorBox
import Derived.LaidMore
import Derived.LaidLaws
import Derived.LaidEql
import Derived.OpenShut
import Derived.ProofKit
import Derived.Stop.Joined
namespace Go.Proofs.YtngomgkinaodjaaDoor
open Go.ChangeShapes Go.WideShapes Go.ChangeAt Go.WideMaps Go.WideElems Go.RowKit
set_option linter.unusedVariables false
set_option maxRecDepth 20000
def errV (a : Addr) : Value := .iface 97 (.pointer (some a))
structure Ers (E : Nat → Addr) (w : World) : Prop where
  g0 : w.cell? ⟨1, 0, none⟩ = some (errV (E 0))
  g1 : w.cell? ⟨0, 0, none⟩ = some (errV (E 1))
  g2 : w.cell? ⟨2, 0, none⟩ = some (errV (E 2))
  g3 : w.cell? ⟨4, 0, none⟩ = some (errV (E 3))
  g4 : w.cell? ⟨5, 0, none⟩ = some (errV (E 4))
  g5 : w.cell? ⟨6, 0, none⟩ = some (errV (E 5))
  g6 : w.cell? ⟨3, 0, none⟩ = some (errV (E 6))
  inj : ∀ i j, i < 7 → j < 7 → E i = E j → i = j
  row : ∀ i, i < 7 → ∃ c t, w.heap[(E i).block]? = some (.cells c t (0, 0))
theorem Ers.below {E : Nat → Addr} {w w' : World} (h : Ers E w) (hb : Below w.heap.size w w') : Ers E w' := by
  have k : ∀ (p : Addr) (v : Value), w.cell? p = some v → w'.cell? p = some v := fun p v hc => (hb.cell (p := p) (block_lt_of_cell hc)).trans hc
  refine ⟨k _ _ h.g0, k _ _ h.g1, k _ _ h.g2, k _ _ h.g3, k _ _ h.g4, k _ _ h.g5, k _ _ h.g6, h.inj, fun i hi => ?_⟩
  obtain ⟨c, t, hr⟩ := h.row i hi
  exact ⟨c, t, (hb.block _ (Array.getElem?_eq_some_iff.1 hr).1).trans hr⟩
theorem erG0 : Tryd.prog.globalNamed "dynamo/api.ErrRange" = some 1 := by kernel_rfl
theorem erT0 : (Tryd.prog.globals[1]?).map (·.type) = some 27 := by kernel_rfl
theorem erG1 : Tryd.prog.globalNamed "dynamo/api.ErrLong" = some 0 := by kernel_rfl
theorem erT1 : (Tryd.prog.globals[0]?).map (·.type) = some 27 := by kernel_rfl
theorem erG2 : Tryd.prog.globalNamed "dynamo/api.ErrShort" = some 2 := by kernel_rfl
theorem erT2 : (Tryd.prog.globals[2]?).map (·.type) = some 27 := by kernel_rfl
theorem erG3 : Tryd.prog.globalNamed "dynamo/api.ErrSum" = some 4 := by kernel_rfl
theorem erT3 : (Tryd.prog.globals[4]?).map (·.type) = some 27 := by kernel_rfl
theorem erG4 : Tryd.prog.globalNamed "dynamo/api.ErrTable" = some 5 := by kernel_rfl
theorem erT4 : (Tryd.prog.globals[5]?).map (·.type) = some 27 := by kernel_rfl
theorem erG5 : Tryd.prog.globalNamed "dynamo/api.ErrConfig" = some 6 := by kernel_rfl
theorem erT5 : (Tryd.prog.globals[6]?).map (·.type) = some 27 := by kernel_rfl
theorem erG6 : Tryd.prog.globalNamed "dynamo/api.ErrNone" = some 3 := by kernel_rfl
theorem erT6 : (Tryd.prog.globals[3]?).map (·.type) = some 27 := by kernel_rfl
theorem erCells : Tryd.prog.cellsOf 114 = 1 := by kernel_rfl
theorem erCellS : Tryd.prog.cellsOf 9 = 1 := by kernel_rfl
theorem erStar : "*" ++ "errors.errorString" = "*errors.errorString" := by decide
theorem erRow (u : TypeId) (h : Tryd.prog.typeName? 3 u = some "*errors.errorString") : u = 97 :=
  typeName_ptr_named (nm := "errors.errorString") (by rw [erStar]; kernel_rfl) (by kernel_rfl) (by decide) u (by rw [erStar]; exact h)
abbrev laidErr7 : List (String × DataW Unit) := [("dynamo/api.ErrRange", Rows.laid_dynamo_api_ErrRange), ("dynamo/api.ErrLong", Rows.laid_dynamo_api_ErrLong), ("dynamo/api.ErrShort", Rows.laid_dynamo_api_ErrShort), ("dynamo/api.ErrSum", Rows.laid_dynamo_api_ErrSum), ("dynamo/api.ErrTable", Rows.laid_dynamo_api_ErrTable), ("dynamo/api.ErrConfig", Rows.laid_dynamo_api_ErrConfig), ("dynamo/api.ErrNone", Rows.laid_dynamo_api_ErrNone)]
theorem err7_door_met (os : Os) (args : Array Value) : laidMetH Tryd.prog laidErr7 ((World.doorLaid Tryd.prog 400 os).forCall (fun _ _ => 0) ⟨#[], args, []⟩).memory :=
  laidMetH_of_parts3 (fuel := 8) (laidMet_of_run' 8 (by kernel_rfl) (by kernel_rfl)) (by kernel_rfl) (by kernel_rfl)
def at7 (a0 a1 a2 a3 a4 a5 a6 : Addr) : Nat → Addr
  | 0 => a0
  | 1 => a1
  | 2 => a2
  | 3 => a3
  | 4 => a4
  | 5 => a5
  | _ => a6
theorem ers_of_laid {W : World} (h : laidMetH Tryd.prog laidErr7 W) : ∃ E, Ers E W := by
  rw [MakeChecks.laidMetH_plain _ _ _ (by kernel_rfl)] at h
  obtain ⟨ps, ⟨g0, t0, cs0, f0, p0, q0, hg0, ht0, hv0, hd0, ⟨g1, t1, cs1, f1, p1, q1, hg1, ht1, hv1, hd1, ⟨g2, t2, cs2, f2, p2, q2, hg2, ht2, hv2, hd2, ⟨g3, t3, cs3, f3, p3, q3, hg3, ht3, hv3, hd3, ⟨g4, t4, cs4, f4, p4, q4, hg4, ht4, hv4, hd4, ⟨g5, t5, cs5, f5, p5, q5, hg5, ht5, hv5, hd5, ⟨g6, t6, cs6, f6, p6, q6, hg6, ht6, hv6, hd6, hq, e6⟩, e5⟩, e4⟩, e3⟩, e2⟩, e1⟩, e0⟩, hnd, hrows⟩ := h
  obtain rfl := Option.some.inj (erG0.symm.trans hg0)
  obtain rfl := Option.some.inj (erT0.symm.trans ht0)
  obtain rfl := Option.some.inj (erG1.symm.trans hg1)
  obtain rfl := Option.some.inj (erT1.symm.trans ht1)
  obtain rfl := Option.some.inj (erG2.symm.trans hg2)
  obtain rfl := Option.some.inj (erT2.symm.trans ht2)
  obtain rfl := Option.some.inj (erG3.symm.trans hg3)
  obtain rfl := Option.some.inj (erT3.symm.trans ht3)
  obtain rfl := Option.some.inj (erG4.symm.trans hg4)
  obtain rfl := Option.some.inj (erT4.symm.trans ht4)
  obtain rfl := Option.some.inj (erG5.symm.trans hg5)
  obtain rfl := Option.some.inj (erT5.symm.trans ht5)
  obtain rfl := Option.some.inj (erG6.symm.trans hg6)
  obtain rfl := Option.some.inj (erT6.symm.trans ht6)
  have hq6 : q6 = [] := hq
  subst hq6
  subst e6
  subst e5
  subst e4
  subst e3
  subst e2
  subst e1
  subst e0
  obtain ⟨l0⟩ := cs0
  obtain ⟨l1⟩ := cs1
  obtain ⟨l2⟩ := cs2
  obtain ⟨l3⟩ := cs3
  obtain ⟨l4⟩ := cs4
  obtain ⟨l5⟩ := cs5
  obtain ⟨l6⟩ := cs6
  have ok0 : ∀ u v, l0 = [.iface u v] → Value.okWide Tryd.prog W .any 0 u v := fun u v e => by
    subst e
    exact (hrows 1 0 (by simp [MemPlace.row])).2 u v (by simpa using World.var?_cell hg0 hv0 0)
  have ok1 : ∀ u v, l1 = [.iface u v] → Value.okWide Tryd.prog W .any 0 u v := fun u v e => by
    subst e
    exact (hrows 0 0 (by simp [MemPlace.row])).2 u v (by simpa using World.var?_cell hg1 hv1 0)
  have ok2 : ∀ u v, l2 = [.iface u v] → Value.okWide Tryd.prog W .any 0 u v := fun u v e => by
    subst e
    exact (hrows 2 0 (by simp [MemPlace.row])).2 u v (by simpa using World.var?_cell hg2 hv2 0)
  have ok3 : ∀ u v, l3 = [.iface u v] → Value.okWide Tryd.prog W .any 0 u v := fun u v e => by
    subst e
    exact (hrows 4 0 (by simp [MemPlace.row])).2 u v (by simpa using World.var?_cell hg3 hv3 0)
  have ok4 : ∀ u v, l4 = [.iface u v] → Value.okWide Tryd.prog W .any 0 u v := fun u v e => by
    subst e
    exact (hrows 5 0 (by simp [MemPlace.row])).2 u v (by simpa using World.var?_cell hg4 hv4 0)
  have ok5 : ∀ u v, l5 = [.iface u v] → Value.okWide Tryd.prog W .any 0 u v := fun u v e => by
    subst e
    exact (hrows 6 0 (by simp [MemPlace.row])).2 u v (by simpa using World.var?_cell hg5 hv5 0)
  have ok6 : ∀ u v, l6 = [.iface u v] → Value.okWide Tryd.prog W .any 0 u v := fun u v e => by
    subst e
    exact (hrows 3 0 (by simp [MemPlace.row])).2 u v (by simpa using World.var?_cell hg6 hv6 0)
  obtain ⟨a0, s0, rfl, hc0, hs0, hz0, rfl⟩ := errorString_of_trod Tryd.underlying27 erRow Tryd.underlying97 Tryd.underlying114 rfl rfl Tryd.underlying9 erCells erCellS hd0 ok0
  obtain ⟨a1, s1, rfl, hc1, hs1, hz1, rfl⟩ := errorString_of_trod Tryd.underlying27 erRow Tryd.underlying97 Tryd.underlying114 rfl rfl Tryd.underlying9 erCells erCellS hd1 ok1
  obtain ⟨a2, s2, rfl, hc2, hs2, hz2, rfl⟩ := errorString_of_trod Tryd.underlying27 erRow Tryd.underlying97 Tryd.underlying114 rfl rfl Tryd.underlying9 erCells erCellS hd2 ok2
  obtain ⟨a3, s3, rfl, hc3, hs3, hz3, rfl⟩ := errorString_of_trod Tryd.underlying27 erRow Tryd.underlying97 Tryd.underlying114 rfl rfl Tryd.underlying9 erCells erCellS hd3 ok3
  obtain ⟨a4, s4, rfl, hc4, hs4, hz4, rfl⟩ := errorString_of_trod Tryd.underlying27 erRow Tryd.underlying97 Tryd.underlying114 rfl rfl Tryd.underlying9 erCells erCellS hd4 ok4
  obtain ⟨a5, s5, rfl, hc5, hs5, hz5, rfl⟩ := errorString_of_trod Tryd.underlying27 erRow Tryd.underlying97 Tryd.underlying114 rfl rfl Tryd.underlying9 erCells erCellS hd5 ok5
  obtain ⟨a6, s6, rfl, hc6, hs6, hz6, rfl⟩ := errorString_of_trod Tryd.underlying27 erRow Tryd.underlying97 Tryd.underlying114 rfl rfl Tryd.underlying9 erCells erCellS hd6 ok6
  obtain ⟨c0, u0, hb0⟩ := (hrows a0.block a0.off (by simp [MemPlace.row])).1
  obtain ⟨c1, u1, hb1⟩ := (hrows a1.block a1.off (by simp [MemPlace.row])).1
  obtain ⟨c2, u2, hb2⟩ := (hrows a2.block a2.off (by simp [MemPlace.row])).1
  obtain ⟨c3, u3, hb3⟩ := (hrows a3.block a3.off (by simp [MemPlace.row])).1
  obtain ⟨c4, u4, hb4⟩ := (hrows a4.block a4.off (by simp [MemPlace.row])).1
  obtain ⟨c5, u5, hb5⟩ := (hrows a5.block a5.off (by simp [MemPlace.row])).1
  obtain ⟨c6, u6, hb6⟩ := (hrows a6.block a6.off (by simp [MemPlace.row])).1
  refine ⟨at7 a0 a1 a2 a3 a4 a5 a6, ⟨?_, ?_, ?_, ?_, ?_, ?_, ?_, ?_, ?_⟩⟩
  · exact (show W.cell? ⟨1, 0, none⟩ = some (.iface 97 (.pointer (some a0))) by simpa using World.var?_cell hg0 hv0 0)
  · exact (show W.cell? ⟨0, 0, none⟩ = some (.iface 97 (.pointer (some a1))) by simpa using World.var?_cell hg1 hv1 0)
  · exact (show W.cell? ⟨2, 0, none⟩ = some (.iface 97 (.pointer (some a2))) by simpa using World.var?_cell hg2 hv2 0)
  · exact (show W.cell? ⟨4, 0, none⟩ = some (.iface 97 (.pointer (some a3))) by simpa using World.var?_cell hg3 hv3 0)
  · exact (show W.cell? ⟨5, 0, none⟩ = some (.iface 97 (.pointer (some a4))) by simpa using World.var?_cell hg4 hv4 0)
  · exact (show W.cell? ⟨6, 0, none⟩ = some (.iface 97 (.pointer (some a5))) by simpa using World.var?_cell hg5 hv5 0)
  · exact (show W.cell? ⟨3, 0, none⟩ = some (.iface 97 (.pointer (some a6))) by simpa using World.var?_cell hg6 hv6 0)
  · intro i j hi hj he
    match i, hi, j, hj with
    | 0, _, 0, _ => exact rfl
    | 0, _, 1, _ => exact absurd (show a0 = a1 from he) (by rintro rfl; simp [MemPlace.row] at hnd)
    | 0, _, 2, _ => exact absurd (show a0 = a2 from he) (by rintro rfl; simp [MemPlace.row] at hnd)
    | 0, _, 3, _ => exact absurd (show a0 = a3 from he) (by rintro rfl; simp [MemPlace.row] at hnd)
    | 0, _, 4, _ => exact absurd (show a0 = a4 from he) (by rintro rfl; simp [MemPlace.row] at hnd)
    | 0, _, 5, _ => exact absurd (show a0 = a5 from he) (by rintro rfl; simp [MemPlace.row] at hnd)
    | 0, _, 6, _ => exact absurd (show a0 = a6 from he) (by rintro rfl; simp [MemPlace.row] at hnd)
    | 1, _, 0, _ => exact absurd (show a1 = a0 from he) (by rintro rfl; simp [MemPlace.row] at hnd)
    | 1, _, 1, _ => exact rfl
    | 1, _, 2, _ => exact absurd (show a1 = a2 from he) (by rintro rfl; simp [MemPlace.row] at hnd)
    | 1, _, 3, _ => exact absurd (show a1 = a3 from he) (by rintro rfl; simp [MemPlace.row] at hnd)
    | 1, _, 4, _ => exact absurd (show a1 = a4 from he) (by rintro rfl; simp [MemPlace.row] at hnd)
    | 1, _, 5, _ => exact absurd (show a1 = a5 from he) (by rintro rfl; simp [MemPlace.row] at hnd)
    | 1, _, 6, _ => exact absurd (show a1 = a6 from he) (by rintro rfl; simp [MemPlace.row] at hnd)
    | 2, _, 0, _ => exact absurd (show a2 = a0 from he) (by rintro rfl; simp [MemPlace.row] at hnd)
    | 2, _, 1, _ => exact absurd (show a2 = a1 from he) (by rintro rfl; simp [MemPlace.row] at hnd)
    | 2, _, 2, _ => exact rfl
    | 2, _, 3, _ => exact absurd (show a2 = a3 from he) (by rintro rfl; simp [MemPlace.row] at hnd)
    | 2, _, 4, _ => exact absurd (show a2 = a4 from he) (by rintro rfl; simp [MemPlace.row] at hnd)
    | 2, _, 5, _ => exact absurd (show a2 = a5 from he) (by rintro rfl; simp [MemPlace.row] at hnd)
    | 2, _, 6, _ => exact absurd (show a2 = a6 from he) (by rintro rfl; simp [MemPlace.row] at hnd)
    | 3, _, 0, _ => exact absurd (show a3 = a0 from he) (by rintro rfl; simp [MemPlace.row] at hnd)
    | 3, _, 1, _ => exact absurd (show a3 = a1 from he) (by rintro rfl; simp [MemPlace.row] at hnd)
    | 3, _, 2, _ => exact absurd (show a3 = a2 from he) (by rintro rfl; simp [MemPlace.row] at hnd)
    | 3, _, 3, _ => exact rfl
    | 3, _, 4, _ => exact absurd (show a3 = a4 from he) (by rintro rfl; simp [MemPlace.row] at hnd)
    | 3, _, 5, _ => exact absurd (show a3 = a5 from he) (by rintro rfl; simp [MemPlace.row] at hnd)
    | 3, _, 6, _ => exact absurd (show a3 = a6 from he) (by rintro rfl; simp [MemPlace.row] at hnd)
    | 4, _, 0, _ => exact absurd (show a4 = a0 from he) (by rintro rfl; simp [MemPlace.row] at hnd)
    | 4, _, 1, _ => exact absurd (show a4 = a1 from he) (by rintro rfl; simp [MemPlace.row] at hnd)
    | 4, _, 2, _ => exact absurd (show a4 = a2 from he) (by rintro rfl; simp [MemPlace.row] at hnd)
    | 4, _, 3, _ => exact absurd (show a4 = a3 from he) (by rintro rfl; simp [MemPlace.row] at hnd)
    | 4, _, 4, _ => exact rfl
    | 4, _, 5, _ => exact absurd (show a4 = a5 from he) (by rintro rfl; simp [MemPlace.row] at hnd)
    | 4, _, 6, _ => exact absurd (show a4 = a6 from he) (by rintro rfl; simp [MemPlace.row] at hnd)
    | 5, _, 0, _ => exact absurd (show a5 = a0 from he) (by rintro rfl; simp [MemPlace.row] at hnd)
    | 5, _, 1, _ => exact absurd (show a5 = a1 from he) (by rintro rfl; simp [MemPlace.row] at hnd)
    | 5, _, 2, _ => exact absurd (show a5 = a2 from he) (by rintro rfl; simp [MemPlace.row] at hnd)
    | 5, _, 3, _ => exact absurd (show a5 = a3 from he) (by rintro rfl; simp [MemPlace.row] at hnd)
    | 5, _, 4, _ => exact absurd (show a5 = a4 from he) (by rintro rfl; simp [MemPlace.row] at hnd)
    | 5, _, 5, _ => exact rfl
    | 5, _, 6, _ => exact absurd (show a5 = a6 from he) (by rintro rfl; simp [MemPlace.row] at hnd)
    | 6, _, 0, _ => exact absurd (show a6 = a0 from he) (by rintro rfl; simp [MemPlace.row] at hnd)
    | 6, _, 1, _ => exact absurd (show a6 = a1 from he) (by rintro rfl; simp [MemPlace.row] at hnd)
    | 6, _, 2, _ => exact absurd (show a6 = a2 from he) (by rintro rfl; simp [MemPlace.row] at hnd)
    | 6, _, 3, _ => exact absurd (show a6 = a3 from he) (by rintro rfl; simp [MemPlace.row] at hnd)
    | 6, _, 4, _ => exact absurd (show a6 = a4 from he) (by rintro rfl; simp [MemPlace.row] at hnd)
    | 6, _, 5, _ => exact absurd (show a6 = a5 from he) (by rintro rfl; simp [MemPlace.row] at hnd)
    | 6, _, 6, _ => exact rfl
  · intro i hi
    match i, hi with
    | 0, _ => exact ⟨c0, u0, hb0⟩
    | 1, _ => exact ⟨c1, u1, hb1⟩
    | 2, _ => exact ⟨c2, u2, hb2⟩
    | 3, _ => exact ⟨c3, u3, hb3⟩
    | 4, _ => exact ⟨c4, u4, hb4⟩
    | 5, _ => exact ⟨c5, u5, hb5⟩
    | 6, _ => exact ⟨c6, u6, hb6⟩
end Go.Proofs.YtngomgkinaodjaaDoor
