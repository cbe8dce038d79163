/- ModeRanks returns true for every argument, and leaves its arguments as they were. No condition beside the given statement's own. -/
import Derived.Test.YtomjhoaffbjkgaaRows
import Derived.Test.YtomjhoaffbjkgaaModeQ
import Derived.Test.YtomjhoaffbjkgaaCame
import Derived.Test.YtomjhoaffbjkgaaFlat
import Derived.WalkKit
import Derived.ProofKit
import Derived.OpenShut
import Derived.ShutString
import Derived.ChangeOld
import Derived.Below
import Derived.Deep.Grids
namespace Go.Proofs.Ytomjhoaffbjkgaa.modeRanks
open Go.ChangeShapes Go.WideShapes Go.ChangeAt Go.RowKit
open Go.ChangeMaps (open_string shut_string)
set_option linter.unusedVariables false
theorem own : ownKnob Try.prog.godebug = none := by kernel_rfl
theorem laidOut : laidOutB Try.prog = true := by kernel_rfl
set_option maxRecDepth 100000 in
theorem lifted (os : Os) (started : os.Started) (H : Type) (enc : TypeId × Value → H) :
    ReturnsInHanded {} Try.checked os 5 .any (Rows.modeRanksSpec.pre6 enc Try.prog Try.f5 Rows.modeRanksRow.domain false) (Rows.modeRanksSpec.post enc Try.prog Try.f5 false true false false) := by
  refine returnsInHanded_of_change (C := Try.checked) own started (by kernel_rfl) Try.func5
    (ChangeSpec.witness6 (enc := enc) (C := Try.checked) false ⟨#[], #[.int .i64 0, .int .i64 0, .int .i64 0, .agg #[.bool false, .bool false, .bool false, .bool false, .int .i64 0, .bool false, .bool false, .bool false, .bool false, .bool false, .bool false, .bool false, .int .i64 0], .int .i64 0], []⟩ 8 (by kernel_rfl) (by kernel_rfl) (by kernel_rfl) (by kernel_rfl)) ?_
  intro W base args ds gs before hval0 hW hcnd _
  have hval : ∀ (j : Nat) t v, Try.f5.params[j]? = some t → args[j]? = some v → Value.okWide Try.prog W .any base t v := hval0
  have hW' := hW
  obtain ⟨p, q, hA0, hV, rfl, hfz, hnd⟩ := hW
  have hA : DataW.TrodAll enc Try.prog W 0 (fun _ => true) true Try.f5.params.toList args.toList ds p := hA0
  rw [Try.params5] at hA hval
  obtain ⟨v0, vs0, d0, ds0, p0, q0, hargs, rfl, rfl, h0, r0⟩ := trodAll_cons hA
  obtain ⟨v1, vs1, d1, ds1, p1, q1, rfl, rfl, rfl, h1, r1⟩ := trodAll_cons r0
  obtain ⟨v2, vs2, d2, ds2, p2, q2, rfl, rfl, rfl, h2, r2⟩ := trodAll_cons r1
  obtain ⟨v3, vs3, d3, ds3, p3, q3, rfl, rfl, rfl, h3, r3⟩ := trodAll_cons r2
  obtain ⟨v4, vs4, d4, ds4, p4, q4, rfl, rfl, rfl, h4, r4⟩ := trodAll_cons r3
  obtain ⟨rfl, rfl, rfl⟩ := trodAll_nil r4
  obtain rfl : args = #[v0, v1, v2, v3, v4] := by cases args; simp_all
  obtain ⟨rfl, rfl⟩ := trodVars_none hV
  obtain ⟨a0, rfl, rfl, rfl, w0⟩ := open_int Try.underlying3 (hval 0 3 v0 rfl rfl) h0
  obtain ⟨a1, rfl, rfl, rfl, w1⟩ := open_int Try.underlying3 (hval 1 3 v1 rfl rfl) h1
  obtain ⟨a2, rfl, rfl, rfl, w2⟩ := open_int Try.underlying3 (hval 2 3 v2 rfl rfl) h2
  obtain ⟨c3, rfl, sz3⟩ := okWide_struct Try.underlying38 (hval 3 38 v3 rfl rfl)
  have k3 := h3
  have lt3 : ∀ x ∈ p3, x.block < W.heap.size := by obtain ⟨m, hm⟩ := k3; exact DataW.trod_lt m _ _ _ hm
  obtain ⟨m3, hm3⟩ := h3
  have o3 := flat_ok 6 38 [.bool, .bool, .bool, .bool, .int .i64, .bool, .bool, .bool, .bool, .bool, .bool, .bool, .int .i64] (by kernel_rfl) _ _ _ hm3
  generalize hcs3 : (Value.agg c3).cells.toList = L3 at o3
  obtain ⟨_, _, rfl, ⟨a3_0, rfl⟩, o3_0⟩ := oks_cons o3
  obtain ⟨_, _, rfl, ⟨a3_1, rfl⟩, o3_1⟩ := oks_cons o3_0
  obtain ⟨_, _, rfl, ⟨a3_2, rfl⟩, o3_2⟩ := oks_cons o3_1
  obtain ⟨_, _, rfl, ⟨a3_3, rfl⟩, o3_3⟩ := oks_cons o3_2
  obtain ⟨_, _, rfl, ⟨a3_4, rfl, w3_4⟩, o3_4⟩ := oks_cons o3_3
  obtain ⟨_, _, rfl, ⟨a3_5, rfl⟩, o3_5⟩ := oks_cons o3_4
  obtain ⟨_, _, rfl, ⟨a3_6, rfl⟩, o3_6⟩ := oks_cons o3_5
  obtain ⟨_, _, rfl, ⟨a3_7, rfl⟩, o3_7⟩ := oks_cons o3_6
  obtain ⟨_, _, rfl, ⟨a3_8, rfl⟩, o3_8⟩ := oks_cons o3_7
  obtain ⟨_, _, rfl, ⟨a3_9, rfl⟩, o3_9⟩ := oks_cons o3_8
  obtain ⟨_, _, rfl, ⟨a3_10, rfl⟩, o3_10⟩ := oks_cons o3_9
  obtain ⟨_, _, rfl, ⟨a3_11, rfl⟩, o3_11⟩ := oks_cons o3_10
  obtain ⟨_, _, rfl, ⟨a3_12, rfl, w3_12⟩, o3_12⟩ := oks_cons o3_11
  obtain rfl := oks_nil o3_12
  obtain rfl : c3 = #[.bool a3_0, .bool a3_1, .bool a3_2, .bool a3_3, .int .i64 a3_4, .bool a3_5, .bool a3_6, .bool a3_7, .bool a3_8, .bool a3_9, .bool a3_10, .bool a3_11, .int .i64 a3_12] := by apply Array.ext'; simpa [Value.cells] using hcs3
  clear hcs3 hm3 sz3
  obtain ⟨a4, rfl, rfl, rfl, w4⟩ := open_int Try.underlying2 (hval 4 2 v4 rfl rfl) h4
  clear hA0 hval0
  refine (Go.Proofs.Ytomjhoaffbjkgaa.walkModeRanks a0 a1 a2 a3_0 a3_1 a3_2 a3_3 a3_4 a3_5 a3_6 a3_7 a3_8 a3_9 a3_10 a3_11 a3_12 a4 W w0 w1 w2 w3_4 w3_12 w4).mono fun e W' ⟨he, bel⟩ => ?_
  subst he
  exact ⟨_, rfl, _, _, _, [], _, [], hW', trodAll_mk1 (shut_bool Try.underlying4 _), (trodAll_cons_mk (shut_int Try.underlying3 w0) (trodAll_cons_mk (shut_int Try.underlying3 w1) (trodAll_cons_mk (shut_int Try.underlying3 w2) (trodAll_cons_mk (Below.trod laidOut (by kernel_rfl) (of_decide_eq_true (by kernel_rfl)) k3 bel lt3) (trodAll_cons_mk (shut_int Try.underlying2 w4) trodAll_mk0))))), rfl, bel.frame _, fun h => by cases h⟩
theorem over : Rows.modeRanksRow.holds Try.pinned (OpenSpec.ofChange Rows.modeRanksSpec) :=
  OpenClaim.holds_of_wide 5 Try.f5 rfl rfl rfl rfl rfl rfl rfl ⟨rfl, rfl, rfl, rfl, rfl⟩ rfl rfl rfl rfl rfl (by kernel_rfl) Try.func5 (by kernel_rfl)
    (of_decide_eq_true (by kernel_rfl)) (by unfold Func.isWrapper; first | (rw [if_pos (by decide +kernel)]; kernel_rfl) | (rw [if_neg (by decide +kernel)]; exact ⟨rfl, rfl⟩))
    (fun os started H enc _ => lifted os started H enc)
theorem proved : Rows.ModeRanksSaid := over
#print axioms proved
end Go.Proofs.Ytomjhoaffbjkgaa.modeRanks
