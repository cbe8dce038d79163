/- The table of ends lies in memory as the program's text lays it, wherever the row's condition stands. No other condition. -/
import Derived.Test.YtbeemfkndpandaaDoorGraphD
import Derived.Test.YtbeemfkndpandaaDoorRows
import Derived.LaidMore
import Derived.OpenShut
import Derived.ProofKit
import Derived.Stop.Joined
namespace Go.Proofs.YtbeemfkndpandaaDoor
set_option maxRecDepth 100000
open Go.ChangeShapes Go.WideShapes Go.ChangeAt Go.WideMaps Go.WideElems Go.RowKit
theorem gEnds : Tryd.prog.globalNamed "dynamo/graph.ends" = some 1 := by kernel_rfl
theorem tEnds : (Tryd.prog.globals[1]?).map (·.type) = some 86 := by kernel_rfl
abbrev laidEnds : List (String × DataW Unit) := [("dynamo/graph.ends", Rows.laid_dynamo_graph_ends)]
theorem ends_door_met (os : Os) (args : Array Value) : laidMetH Tryd.prog laidEnds ((World.doorLaid Tryd.prog 400 os).forCall (fun _ _ => 0) ⟨#[], args, []⟩).memory :=
  laidMetH_of_parts3 (fuel := 8) (laidMet_of_run' 8 (by kernel_rfl) (by kernel_rfl)) (by kernel_rfl) (by kernel_rfl)
theorem pair_of_trod {P : Program} {W : World} {base fuel : Nat} {sp : Nat → Bool} {held : Bool} {enc : TypeId × Value → Unit} {t e : TypeId} {c0 c1 : Value} {a b : Int} {x : DataW Unit × List MemPlace}
    (ht : P.underlying t = some (.array 2 e)) (he : P.underlying e = some (.int .i64)) (hc : P.cellsOf e = 1)
    (h : DataW.trod enc P W base sp held fuel t [c0, c1] = some x) (hx : x.1 = .agg [.lit (.int .i64 a), .lit (.int .i64 b)]) : c0 = .int .i64 a ∧ c1 = .int .i64 b := by
  obtain ⟨xs, m, rfl, rfl, _, hn, hel⟩ := DataW.trod_array ht h
  have h0 := hel 0 (by omega)
  have h1 := hel 1 (by omega)
  rw [hc] at h0 h1
  match xs, hn with
  | [x0, x1], _ =>
    simp only [List.map_cons, List.map_nil, DataW.agg.injEq, List.cons.injEq, and_true] at hx
    obtain ⟨n0, e0, f0, _⟩ := DataW.trod_int he (show DataW.trod enc P W base sp held m e [c0] = some x0 from h0)
    obtain ⟨n1, e1, f1, _⟩ := DataW.trod_int he (show DataW.trod enc P W base sp held m e [c1] = some x1 from h1)
    rw [f0, f1] at hx
    simp only [DataW.lit.injEq, Lit.int.injEq, true_and] at hx
    simp only [List.cons.injEq, and_true] at e0 e1
    exact ⟨by rw [e0, hx.1], by rw [e1, hx.2]⟩
theorem tab_of_laid {W : World} (h : laidMetH Tryd.prog laidEnds W) : Tab W := by
  rw [MakeChecks.laidMetH_plain _ _ _ (by kernel_rfl)] at h
  obtain ⟨ps, ⟨g0, t0, cs0, f0, p0, q0, hg0, ht0, hv0, hd0, _, _⟩, _, _⟩ := h
  obtain rfl := Option.some.inj (gEnds.symm.trans hg0)
  obtain rfl := Option.some.inj (tEnds.symm.trans ht0)
  obtain ⟨xs, m, rfl, hx, hl, hn, hel⟩ := DataW.trod_array Tryd.underlying86 hd0
  have c2 : Tryd.prog.cellsOf 23 = 2 := by kernel_rfl
  have c14 : Tryd.prog.cellsOf 86 = 14 := by kernel_rfl
  have c1 : Tryd.prog.cellsOf 3 = 1 := by kernel_rfl
  rw [c14] at hl
  rw [c2] at hel
  obtain ⟨l⟩ := cs0
  have hx1 := congrArg (fun x : DataW Unit × List MemPlace => x.1) hx
  simp only [Rows.laid_dynamo_graph_ends, DataW.agg.injEq] at hx1
  match l, hl, hv0, hel with
  | [a0, a1, a2, a3, a4, a5, a6, a7, a8, a9, a10, a11, a12, a13], _, hv0, hel =>
    match xs, hn, hx1, hel with
    | [x0, x1, x2, x3, x4, x5, x6], _, hx1, hel =>
      simp only [List.map_cons, List.map_nil, List.cons.injEq, and_true] at hx1
      obtain ⟨k0, k1, k2, k3, k4, k5, k6⟩ := hx1
      obtain ⟨rfl, rfl⟩ := pair_of_trod Tryd.underlying23 Tryd.underlying3 c1 (show DataW.trod _ _ W _ _ _ m 23 [a0, a1] = some x0 from hel 0 (by decide)) k0.symm
      obtain ⟨rfl, rfl⟩ := pair_of_trod Tryd.underlying23 Tryd.underlying3 c1 (show DataW.trod _ _ W _ _ _ m 23 [a2, a3] = some x1 from hel 1 (by decide)) k1.symm
      obtain ⟨rfl, rfl⟩ := pair_of_trod Tryd.underlying23 Tryd.underlying3 c1 (show DataW.trod _ _ W _ _ _ m 23 [a4, a5] = some x2 from hel 2 (by decide)) k2.symm
      obtain ⟨rfl, rfl⟩ := pair_of_trod Tryd.underlying23 Tryd.underlying3 c1 (show DataW.trod _ _ W _ _ _ m 23 [a6, a7] = some x3 from hel 3 (by decide)) k3.symm
      obtain ⟨rfl, rfl⟩ := pair_of_trod Tryd.underlying23 Tryd.underlying3 c1 (show DataW.trod _ _ W _ _ _ m 23 [a8, a9] = some x4 from hel 4 (by decide)) k4.symm
      obtain ⟨rfl, rfl⟩ := pair_of_trod Tryd.underlying23 Tryd.underlying3 c1 (show DataW.trod _ _ W _ _ _ m 23 [a10, a11] = some x5 from hel 5 (by decide)) k5.symm
      obtain ⟨rfl, rfl⟩ := pair_of_trod Tryd.underlying23 Tryd.underlying3 c1 (show DataW.trod _ _ W _ _ _ m 23 [a12, a13] = some x6 from hel 6 (by decide)) k6.symm
      simp only [World.var?, gEnds, Option.bind_some] at hv0
      split at hv0
      · rename_i cs t fr hh
        cases hv0
        exact ⟨t, fr, hh⟩
      · cases hv0
end Go.Proofs.YtbeemfkndpandaaDoor
