/- ModeSays returns true for every argument, and leaves its arguments as they were. No condition beside the given statement's own. -/
import Derived.Test.YtomjhoaffbjkgaaRows
import Derived.Test.YtomjhoaffbjkgaaModeS
import Derived.Test.YtomjhoaffbjkgaaCame
import Derived.Test.YtomjhoaffbjkgaaFlat
import Derived.WalkKit
import Derived.ProofKit
import Derived.OpenShut
import Derived.ShutString
import Derived.ChangeOld
import Derived.Below
import Derived.Deep.Grids
namespace Go.Proofs.Ytomjhoaffbjkgaa.modeSays
open Go.ChangeShapes Go.WideShapes Go.ChangeAt Go.RowKit
open Go.ChangeMaps (open_string shut_string)
set_option linter.unusedVariables false
theorem own : ownKnob Try.prog.godebug = none := by kernel_rfl
theorem laidOut : laidOutB Try.prog = true := by kernel_rfl
set_option maxRecDepth 100000 in
theorem lifted (os : Os) (started : os.Started) (H : Type) (enc : TypeId × Value → H) :
    ReturnsInHanded {} Try.checked os 6 .any (Rows.modeSaysSpec.pre6 enc Try.prog Try.f6 Rows.modeSaysRow.domain false) (Rows.modeSaysSpec.post enc Try.prog Try.f6 false true false false) := by
  refine returnsInHanded_of_change (C := Try.checked) own started (by kernel_rfl) Try.func6
    (ChangeSpec.witness6 (enc := enc) (C := Try.checked) false ⟨#[], #[.int .i64 0, .int .i64 0, .int .i64 0, .int .i64 0, .agg #[.bool false, .bool false, .bool false, .bool false, .int .i64 0, .bool false, .bool false, .bool false, .bool false, .bool false, .bool false, .bool false, .int .i64 0], .agg #[.bool false, .bool false], .agg #[.int .i64 0, .int .i64 0, .int .i64 0, .int .i64 0]], []⟩ 8 (by kernel_rfl) (by kernel_rfl) (by kernel_rfl) (by kernel_rfl)) ?_
  intro W base args ds gs before hval0 hW hcnd _
  have hval : ∀ (j : Nat) t v, Try.f6.params[j]? = some t → args[j]? = some v → Value.okWide Try.prog W .any base t v := hval0
  have hW' := hW
  obtain ⟨p, q, hA0, hV, rfl, hfz, hnd⟩ := hW
  have hA : DataW.TrodAll enc Try.prog W 0 (fun _ => true) true Try.f6.params.toList args.toList ds p := hA0
  rw [Try.params6] at hA hval
  obtain ⟨v0, vs0, d0, ds0, p0, q0, hargs, rfl, rfl, h0, r0⟩ := trodAll_cons hA
  obtain ⟨v1, vs1, d1, ds1, p1, q1, rfl, rfl, rfl, h1, r1⟩ := trodAll_cons r0
  obtain ⟨v2, vs2, d2, ds2, p2, q2, rfl, rfl, rfl, h2, r2⟩ := trodAll_cons r1
  obtain ⟨v3, vs3, d3, ds3, p3, q3, rfl, rfl, rfl, h3, r3⟩ := trodAll_cons r2
  obtain ⟨v4, vs4, d4, ds4, p4, q4, rfl, rfl, rfl, h4, r4⟩ := trodAll_cons r3
  obtain ⟨v5, vs5, d5, ds5, p5, q5, rfl, rfl, rfl, h5, r5⟩ := trodAll_cons r4
  obtain ⟨v6, vs6, d6, ds6, p6, q6, rfl, rfl, rfl, h6, r6⟩ := trodAll_cons r5
  obtain ⟨rfl, rfl, rfl⟩ := trodAll_nil r6
  obtain rfl : args = #[v0, v1, v2, v3, v4, v5, v6] := by cases args; simp_all
  obtain ⟨rfl, rfl⟩ := trodVars_none hV
  obtain ⟨a0, rfl, rfl, rfl, w0⟩ := open_int Try.underlying3 (hval 0 3 v0 rfl rfl) h0
  obtain ⟨a1, rfl, rfl, rfl, w1⟩ := open_int Try.underlying3 (hval 1 3 v1 rfl rfl) h1
  obtain ⟨a2, rfl, rfl, rfl, w2⟩ := open_int Try.underlying3 (hval 2 3 v2 rfl rfl) h2
  obtain ⟨a3, rfl, rfl, rfl, w3⟩ := open_int Try.underlying3 (hval 3 3 v3 rfl rfl) h3
  obtain ⟨c4, rfl, sz4⟩ := okWide_struct Try.underlying38 (hval 4 38 v4 rfl rfl)
  have k4 := h4
  have lt4 : ∀ x ∈ p4, x.block < W.heap.size := by obtain ⟨m, hm⟩ := k4; exact DataW.trod_lt m _ _ _ hm
  obtain ⟨m4, hm4⟩ := h4
  have o4 := flat_ok 6 38 [.bool, .bool, .bool, .bool, .int .i64, .bool, .bool, .bool, .bool, .bool, .bool, .bool, .int .i64] (by kernel_rfl) _ _ _ hm4
  generalize hcs4 : (Value.agg c4).cells.toList = L4 at o4
  obtain ⟨_, _, rfl, ⟨a4_0, rfl⟩, o4_0⟩ := oks_cons o4
  obtain ⟨_, _, rfl, ⟨a4_1, rfl⟩, o4_1⟩ := oks_cons o4_0
  obtain ⟨_, _, rfl, ⟨a4_2, rfl⟩, o4_2⟩ := oks_cons o4_1
  obtain ⟨_, _, rfl, ⟨a4_3, rfl⟩, o4_3⟩ := oks_cons o4_2
  obtain ⟨_, _, rfl, ⟨a4_4, rfl, w4_4⟩, o4_4⟩ := oks_cons o4_3
  obtain ⟨_, _, rfl, ⟨a4_5, rfl⟩, o4_5⟩ := oks_cons o4_4
  obtain ⟨_, _, rfl, ⟨a4_6, rfl⟩, o4_6⟩ := oks_cons o4_5
  obtain ⟨_, _, rfl, ⟨a4_7, rfl⟩, o4_7⟩ := oks_cons o4_6
  obtain ⟨_, _, rfl, ⟨a4_8, rfl⟩, o4_8⟩ := oks_cons o4_7
  obtain ⟨_, _, rfl, ⟨a4_9, rfl⟩, o4_9⟩ := oks_cons o4_8
  obtain ⟨_, _, rfl, ⟨a4_10, rfl⟩, o4_10⟩ := oks_cons o4_9
  obtain ⟨_, _, rfl, ⟨a4_11, rfl⟩, o4_11⟩ := oks_cons o4_10
  obtain ⟨_, _, rfl, ⟨a4_12, rfl, w4_12⟩, o4_12⟩ := oks_cons o4_11
  obtain rfl := oks_nil o4_12
  obtain rfl : c4 = #[.bool a4_0, .bool a4_1, .bool a4_2, .bool a4_3, .int .i64 a4_4, .bool a4_5, .bool a4_6, .bool a4_7, .bool a4_8, .bool a4_9, .bool a4_10, .bool a4_11, .int .i64 a4_12] := by apply Array.ext'; simpa [Value.cells] using hcs4
  clear hcs4 hm4 sz4
  obtain ⟨c5, rfl, sz5⟩ := okWide_arr Try.underlying26 (hval 5 26 v5 rfl rfl)
  have k5 := h5
  have lt5 : ∀ x ∈ p5, x.block < W.heap.size := by obtain ⟨m, hm⟩ := k5; exact DataW.trod_lt m _ _ _ hm
  obtain ⟨m5, hm5⟩ := h5
  have o5 := flat_ok 6 26 [.bool, .bool] (by kernel_rfl) _ _ _ hm5
  generalize hcs5 : (Value.agg c5).cells.toList = L5 at o5
  obtain ⟨_, _, rfl, ⟨a5_0, rfl⟩, o5_0⟩ := oks_cons o5
  obtain ⟨_, _, rfl, ⟨a5_1, rfl⟩, o5_1⟩ := oks_cons o5_0
  obtain rfl := oks_nil o5_1
  obtain rfl : c5 = #[.bool a5_0, .bool a5_1] := by apply Array.ext'; simpa [Value.cells] using hcs5
  clear hcs5 hm5 sz5
  obtain ⟨c6, rfl, sz6⟩ := okWide_arr Try.underlying27 (hval 6 27 v6 rfl rfl)
  have k6 := h6
  have lt6 : ∀ x ∈ p6, x.block < W.heap.size := by obtain ⟨m, hm⟩ := k6; exact DataW.trod_lt m _ _ _ hm
  obtain ⟨m6, hm6⟩ := h6
  have o6 := flat_ok 6 27 [.int .i64, .int .i64, .int .i64, .int .i64] (by kernel_rfl) _ _ _ hm6
  generalize hcs6 : (Value.agg c6).cells.toList = L6 at o6
  obtain ⟨_, _, rfl, ⟨a6_0, rfl, w6_0⟩, o6_0⟩ := oks_cons o6
  obtain ⟨_, _, rfl, ⟨a6_1, rfl, w6_1⟩, o6_1⟩ := oks_cons o6_0
  obtain ⟨_, _, rfl, ⟨a6_2, rfl, w6_2⟩, o6_2⟩ := oks_cons o6_1
  obtain ⟨_, _, rfl, ⟨a6_3, rfl, w6_3⟩, o6_3⟩ := oks_cons o6_2
  obtain rfl := oks_nil o6_3
  obtain rfl : c6 = #[.int .i64 a6_0, .int .i64 a6_1, .int .i64 a6_2, .int .i64 a6_3] := by apply Array.ext'; simpa [Value.cells] using hcs6
  clear hcs6 hm6 sz6
  clear hA0 hval0
  refine (Go.Proofs.Ytomjhoaffbjkgaa.walkModeSays a0 a1 a2 a3 a4_0 a4_1 a4_2 a4_3 a4_4 a4_5 a4_6 a4_7 a4_8 a4_9 a4_10 a4_11 a4_12 a5_0 a5_1 a6_0 a6_1 a6_2 a6_3 W w0 w1 w2 w3 w4_4 w4_12 w6_0 w6_1 w6_2 w6_3).mono fun e W' ⟨he, bel⟩ => ?_
  subst he
  exact ⟨_, rfl, _, _, _, [], _, [], hW', trodAll_mk1 (shut_bool Try.underlying4 _), (trodAll_cons_mk (shut_int Try.underlying3 w0) (trodAll_cons_mk (shut_int Try.underlying3 w1) (trodAll_cons_mk (shut_int Try.underlying3 w2) (trodAll_cons_mk (shut_int Try.underlying3 w3) (trodAll_cons_mk (Below.trod laidOut (by kernel_rfl) (of_decide_eq_true (by kernel_rfl)) k4 bel lt4) (trodAll_cons_mk (Below.trod laidOut (by kernel_rfl) (of_decide_eq_true (by kernel_rfl)) k5 bel lt5) (trodAll_cons_mk (Below.trod laidOut (by kernel_rfl) (of_decide_eq_true (by kernel_rfl)) k6 bel lt6) trodAll_mk0))))))), rfl, bel.frame _, fun h => by cases h⟩
theorem over : Rows.modeSaysRow.holds Try.pinned (OpenSpec.ofChange Rows.modeSaysSpec) :=
  OpenClaim.holds_of_wide 6 Try.f6 rfl rfl rfl rfl rfl rfl rfl ⟨rfl, rfl, rfl, rfl, rfl⟩ rfl rfl rfl rfl rfl (by kernel_rfl) Try.func6 (by kernel_rfl)
    (of_decide_eq_true (by kernel_rfl)) (by unfold Func.isWrapper; first | (rw [if_pos (by decide +kernel)]; kernel_rfl) | (rw [if_neg (by decide +kernel)]; exact ⟨rfl, rfl⟩))
    (fun os started H enc _ => lifted os started H enc)
theorem proved : Rows.ModeSaysSaid := over
#print axioms proved
end Go.Proofs.Ytomjhoaffbjkgaa.modeSays
