/- ModeReserves returns true for every argument, and leaves its arguments as they were. No condition beside the given statement's own. -/
import Derived.Test.YtomjhoaffbjkgaaRows
import Derived.Test.YtomjhoaffbjkgaaModeL
import Derived.Test.YtomjhoaffbjkgaaCame
import Derived.Test.YtomjhoaffbjkgaaFlat
import Derived.WalkKit
import Derived.ProofKit
import Derived.OpenShut
import Derived.ShutString
import Derived.ChangeOld
import Derived.Below
import Derived.Deep.Grids
namespace Go.Proofs.Ytomjhoaffbjkgaa.modeReserves
open Go.ChangeShapes Go.WideShapes Go.ChangeAt Go.RowKit
open Go.ChangeMaps (open_string shut_string)
set_option linter.unusedVariables false
theorem own : ownKnob Try.prog.godebug = none := by kernel_rfl
theorem laidOut : laidOutB Try.prog = true := by kernel_rfl
set_option maxRecDepth 100000 in
theorem lifted (os : Os) (started : os.Started) (H : Type) (enc : TypeId × Value → H) :
    ReturnsInHanded {} Try.checked os 3 .any (Rows.modeReservesSpec.pre6 enc Try.prog Try.f3 Rows.modeReservesRow.domain false) (Rows.modeReservesSpec.post enc Try.prog Try.f3 false true false false) := by
  refine returnsInHanded_of_change (C := Try.checked) own started (by kernel_rfl) Try.func3
    (ChangeSpec.witness6 (enc := enc) (C := Try.checked) false ⟨#[], #[.agg #[.int .i64 0, .int .i64 0], .agg #[.int .i64 0, .int .i64 0], .int .i64 0], []⟩ 8 (by kernel_rfl) (by kernel_rfl) (by kernel_rfl) (by kernel_rfl)) ?_
  intro W base args ds gs before hval0 hW hcnd _
  have hval : ∀ (j : Nat) t v, Try.f3.params[j]? = some t → args[j]? = some v → Value.okWide Try.prog W .any base t v := hval0
  have hW' := hW
  obtain ⟨p, q, hA0, hV, rfl, hfz, hnd⟩ := hW
  have hA : DataW.TrodAll enc Try.prog W 0 (fun _ => true) true Try.f3.params.toList args.toList ds p := hA0
  rw [Try.params3] at hA hval
  obtain ⟨v0, vs0, d0, ds0, p0, q0, hargs, rfl, rfl, h0, r0⟩ := trodAll_cons hA
  obtain ⟨v1, vs1, d1, ds1, p1, q1, rfl, rfl, rfl, h1, r1⟩ := trodAll_cons r0
  obtain ⟨v2, vs2, d2, ds2, p2, q2, rfl, rfl, rfl, h2, r2⟩ := trodAll_cons r1
  obtain ⟨rfl, rfl, rfl⟩ := trodAll_nil r2
  obtain rfl : args = #[v0, v1, v2] := by cases args; simp_all
  obtain ⟨rfl, rfl⟩ := trodVars_none hV
  obtain ⟨c0, rfl, sz0⟩ := okWide_struct Try.underlying23 (hval 0 23 v0 rfl rfl)
  have k0 := h0
  have lt0 : ∀ x ∈ p0, x.block < W.heap.size := by obtain ⟨m, hm⟩ := k0; exact DataW.trod_lt m _ _ _ hm
  obtain ⟨m0, hm0⟩ := h0
  have o0 := flat_ok 6 23 [.int .i64, .int .i64] (by kernel_rfl) _ _ _ hm0
  generalize hcs0 : (Value.agg c0).cells.toList = L0 at o0
  obtain ⟨_, _, rfl, ⟨a0_0, rfl, w0_0⟩, o0_0⟩ := oks_cons o0
  obtain ⟨_, _, rfl, ⟨a0_1, rfl, w0_1⟩, o0_1⟩ := oks_cons o0_0
  obtain rfl := oks_nil o0_1
  obtain rfl : c0 = #[.int .i64 a0_0, .int .i64 a0_1] := by apply Array.ext'; simpa [Value.cells] using hcs0
  clear hcs0 hm0 sz0
  obtain ⟨c1, rfl, sz1⟩ := okWide_struct Try.underlying23 (hval 1 23 v1 rfl rfl)
  have k1 := h1
  have lt1 : ∀ x ∈ p1, x.block < W.heap.size := by obtain ⟨m, hm⟩ := k1; exact DataW.trod_lt m _ _ _ hm
  obtain ⟨m1, hm1⟩ := h1
  have o1 := flat_ok 6 23 [.int .i64, .int .i64] (by kernel_rfl) _ _ _ hm1
  generalize hcs1 : (Value.agg c1).cells.toList = L1 at o1
  obtain ⟨_, _, rfl, ⟨a1_0, rfl, w1_0⟩, o1_0⟩ := oks_cons o1
  obtain ⟨_, _, rfl, ⟨a1_1, rfl, w1_1⟩, o1_1⟩ := oks_cons o1_0
  obtain rfl := oks_nil o1_1
  obtain rfl : c1 = #[.int .i64 a1_0, .int .i64 a1_1] := by apply Array.ext'; simpa [Value.cells] using hcs1
  clear hcs1 hm1 sz1
  obtain ⟨a2, rfl, rfl, rfl, w2⟩ := open_int Try.underlying2 (hval 2 2 v2 rfl rfl) h2
  clear hA0 hval0
  refine (Go.Proofs.Ytomjhoaffbjkgaa.walkModeReserves a0_0 a0_1 a1_0 a1_1 a2 W w0_0 w0_1 w1_0 w1_1 w2).mono fun e W' ⟨he, bel⟩ => ?_
  subst he
  exact ⟨_, rfl, _, _, _, [], _, [], hW', trodAll_mk1 (shut_bool Try.underlying4 _), (trodAll_cons_mk (Below.trod laidOut (by kernel_rfl) (of_decide_eq_true (by kernel_rfl)) k0 bel lt0) (trodAll_cons_mk (Below.trod laidOut (by kernel_rfl) (of_decide_eq_true (by kernel_rfl)) k1 bel lt1) (trodAll_cons_mk (shut_int Try.underlying2 w2) trodAll_mk0))), rfl, bel.frame _, fun h => by cases h⟩
theorem over : Rows.modeReservesRow.holds Try.pinned (OpenSpec.ofChange Rows.modeReservesSpec) :=
  OpenClaim.holds_of_wide 3 Try.f3 rfl rfl rfl rfl rfl rfl rfl ⟨rfl, rfl, rfl, rfl, rfl⟩ rfl rfl rfl rfl rfl (by kernel_rfl) Try.func3 (by kernel_rfl)
    (of_decide_eq_true (by kernel_rfl)) (by unfold Func.isWrapper; first | (rw [if_pos (by decide +kernel)]; kernel_rfl) | (rw [if_neg (by decide +kernel)]; exact ⟨rfl, rfl⟩))
    (fun os started H enc _ => lifted os started H enc)
theorem proved : Rows.ModeReservesSaid := over
#print axioms proved
end Go.Proofs.Ytomjhoaffbjkgaa.modeReserves
