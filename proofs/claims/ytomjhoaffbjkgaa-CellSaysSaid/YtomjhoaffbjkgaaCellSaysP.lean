/- CellSays returns true for every argument, and leaves its arguments as they were. No condition beside the given statement's own. -/
import Derived.Test.YtomjhoaffbjkgaaRows
import Derived.Test.YtomjhoaffbjkgaaCellS
import Derived.Test.YtomjhoaffbjkgaaCame
import Derived.Test.YtomjhoaffbjkgaaFlat
import Derived.WalkKit
import Derived.ProofKit
import Derived.OpenShut
import Derived.ShutString
import Derived.ChangeOld
import Derived.Below
import Derived.Deep.Grids
namespace Go.Proofs.Ytomjhoaffbjkgaa.cellSays
open Go.ChangeShapes Go.WideShapes Go.ChangeAt Go.RowKit
open Go.ChangeMaps (open_string shut_string)
set_option linter.unusedVariables false
theorem own : ownKnob Try.prog.godebug = none := by kernel_rfl
theorem laidOut : laidOutB Try.prog = true := by kernel_rfl
set_option maxRecDepth 100000 in
theorem lifted (os : Os) (started : os.Started) (H : Type) (enc : TypeId × Value → H) :
    ReturnsInHanded {} Try.checked os 10 .any (Rows.cellSaysSpec.pre6 enc Try.prog Try.f10 Rows.cellSaysRow.domain false) (Rows.cellSaysSpec.post enc Try.prog Try.f10 false true false false) := by
  refine returnsInHanded_of_change (C := Try.checked) own started (by kernel_rfl) Try.func10
    (ChangeSpec.witness6 (enc := enc) (C := Try.checked) false ⟨#[], #[.int .i64 0, .int .i64 0, .int .i64 0, .agg #[.int .i64 0, .bool false, .int .i64 0, .bool false, .int .i64 0, .bool false, .int .i64 0, .bool false], .agg #[.int .i64 0, .bool false], .int .i64 0], []⟩ 8 (by kernel_rfl) (by kernel_rfl) (by kernel_rfl) (by kernel_rfl)) ?_
  intro W base args ds gs before hval0 hW hcnd _
  have hval : ∀ (j : Nat) t v, Try.f10.params[j]? = some t → args[j]? = some v → Value.okWide Try.prog W .any base t v := hval0
  have hW' := hW
  obtain ⟨p, q, hA0, hV, rfl, hfz, hnd⟩ := hW
  have hA : DataW.TrodAll enc Try.prog W 0 (fun _ => true) true Try.f10.params.toList args.toList ds p := hA0
  rw [Try.params10] at hA hval
  obtain ⟨v0, vs0, d0, ds0, p0, q0, hargs, rfl, rfl, h0, r0⟩ := trodAll_cons hA
  obtain ⟨v1, vs1, d1, ds1, p1, q1, rfl, rfl, rfl, h1, r1⟩ := trodAll_cons r0
  obtain ⟨v2, vs2, d2, ds2, p2, q2, rfl, rfl, rfl, h2, r2⟩ := trodAll_cons r1
  obtain ⟨v3, vs3, d3, ds3, p3, q3, rfl, rfl, rfl, h3, r3⟩ := trodAll_cons r2
  obtain ⟨v4, vs4, d4, ds4, p4, q4, rfl, rfl, rfl, h4, r4⟩ := trodAll_cons r3
  obtain ⟨v5, vs5, d5, ds5, p5, q5, rfl, rfl, rfl, h5, r5⟩ := trodAll_cons r4
  obtain ⟨rfl, rfl, rfl⟩ := trodAll_nil r5
  obtain rfl : args = #[v0, v1, v2, v3, v4, v5] := by cases args; simp_all
  obtain ⟨rfl, rfl⟩ := trodVars_none hV
  obtain ⟨a0, rfl, rfl, rfl, w0⟩ := open_int Try.underlying3 (hval 0 3 v0 rfl rfl) h0
  obtain ⟨a1, rfl, rfl, rfl, w1⟩ := open_int Try.underlying3 (hval 1 3 v1 rfl rfl) h1
  obtain ⟨a2, rfl, rfl, rfl, w2⟩ := open_int Try.underlying3 (hval 2 3 v2 rfl rfl) h2
  obtain ⟨c3, rfl, sz3⟩ := okWide_arr Try.underlying51 (hval 3 51 v3 rfl rfl)
  have k3 := h3
  have lt3 : ∀ x ∈ p3, x.block < W.heap.size := by obtain ⟨m, hm⟩ := k3; exact DataW.trod_lt m _ _ _ hm
  obtain ⟨m3, hm3⟩ := h3
  have o3 := flat_ok 6 51 [.int .i64, .bool, .int .i64, .bool, .int .i64, .bool, .int .i64, .bool] (by kernel_rfl) _ _ _ hm3
  generalize hcs3 : (Value.agg c3).cells.toList = L3 at o3
  obtain ⟨_, _, rfl, ⟨a3_0, rfl, w3_0⟩, o3_0⟩ := oks_cons o3
  obtain ⟨_, _, rfl, ⟨a3_1, rfl⟩, o3_1⟩ := oks_cons o3_0
  obtain ⟨_, _, rfl, ⟨a3_2, rfl, w3_2⟩, o3_2⟩ := oks_cons o3_1
  obtain ⟨_, _, rfl, ⟨a3_3, rfl⟩, o3_3⟩ := oks_cons o3_2
  obtain ⟨_, _, rfl, ⟨a3_4, rfl, w3_4⟩, o3_4⟩ := oks_cons o3_3
  obtain ⟨_, _, rfl, ⟨a3_5, rfl⟩, o3_5⟩ := oks_cons o3_4
  obtain ⟨_, _, rfl, ⟨a3_6, rfl, w3_6⟩, o3_6⟩ := oks_cons o3_5
  obtain ⟨_, _, rfl, ⟨a3_7, rfl⟩, o3_7⟩ := oks_cons o3_6
  obtain rfl := oks_nil o3_7
  obtain rfl : c3 = #[.int .i64 a3_0, .bool a3_1, .int .i64 a3_2, .bool a3_3, .int .i64 a3_4, .bool a3_5, .int .i64 a3_6, .bool a3_7] := by apply Array.ext'; simpa [Value.cells] using hcs3
  clear hcs3 hm3 sz3
  obtain ⟨c4, rfl, sz4⟩ := okWide_struct Try.underlying50 (hval 4 50 v4 rfl rfl)
  have k4 := h4
  have lt4 : ∀ x ∈ p4, x.block < W.heap.size := by obtain ⟨m, hm⟩ := k4; exact DataW.trod_lt m _ _ _ hm
  obtain ⟨m4, hm4⟩ := h4
  have o4 := flat_ok 6 50 [.int .i64, .bool] (by kernel_rfl) _ _ _ hm4
  generalize hcs4 : (Value.agg c4).cells.toList = L4 at o4
  obtain ⟨_, _, rfl, ⟨a4_0, rfl, w4_0⟩, o4_0⟩ := oks_cons o4
  obtain ⟨_, _, rfl, ⟨a4_1, rfl⟩, o4_1⟩ := oks_cons o4_0
  obtain rfl := oks_nil o4_1
  obtain rfl : c4 = #[.int .i64 a4_0, .bool a4_1] := by apply Array.ext'; simpa [Value.cells] using hcs4
  clear hcs4 hm4 sz4
  obtain ⟨a5, rfl, rfl, rfl, w5⟩ := open_int Try.underlying3 (hval 5 3 v5 rfl rfl) h5
  clear hA0 hval0
  refine (Go.Proofs.Ytomjhoaffbjkgaa.walkCellSays a0 a1 a2 a3_0 a3_1 a3_2 a3_3 a3_4 a3_5 a3_6 a3_7 a4_0 a4_1 a5 W w0 w1 w2 w3_0 w3_2 w3_4 w3_6 w4_0 w5).mono fun e W' ⟨he, bel⟩ => ?_
  subst he
  exact ⟨_, rfl, _, _, _, [], _, [], hW', trodAll_mk1 (shut_bool Try.underlying4 _), (trodAll_cons_mk (shut_int Try.underlying3 w0) (trodAll_cons_mk (shut_int Try.underlying3 w1) (trodAll_cons_mk (shut_int Try.underlying3 w2) (trodAll_cons_mk (Below.trod laidOut (by kernel_rfl) (of_decide_eq_true (by kernel_rfl)) k3 bel lt3) (trodAll_cons_mk (Below.trod laidOut (by kernel_rfl) (of_decide_eq_true (by kernel_rfl)) k4 bel lt4) (trodAll_cons_mk (shut_int Try.underlying3 w5) trodAll_mk0)))))), rfl, bel.frame _, fun h => by cases h⟩
theorem over : Rows.cellSaysRow.holds Try.pinned (OpenSpec.ofChange Rows.cellSaysSpec) :=
  OpenClaim.holds_of_wide 10 Try.f10 rfl rfl rfl rfl rfl rfl rfl ⟨rfl, rfl, rfl, rfl, rfl⟩ rfl rfl rfl rfl rfl (by kernel_rfl) Try.func10 (by kernel_rfl)
    (of_decide_eq_true (by kernel_rfl)) (by unfold Func.isWrapper; first | (rw [if_pos (by decide +kernel)]; kernel_rfl) | (rw [if_neg (by decide +kernel)]; exact ⟨rfl, rfl⟩))
    (fun os started H enc _ => lifted os started H enc)
theorem proved : Rows.CellSaysSaid := over
#print axioms proved
end Go.Proofs.Ytomjhoaffbjkgaa.cellSays
