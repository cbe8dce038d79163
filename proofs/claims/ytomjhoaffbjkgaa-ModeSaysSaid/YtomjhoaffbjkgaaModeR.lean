/- What the document's mode and reserve are. Conditions: the arguments are numbers of 64 bits and bools. -/
import Derived.Test.YtomjhoaffbjkgaaModeL
import Derived.Test.YtomjhoaffbjkgaaCame
import Derived.Deep.DeepCutAuto
import Derived.Deep.RegionWith
namespace Go.Proofs.Ytomjhoaffbjkgaa
open Go.RowKit
set_option linter.unusedVariables false
theorem refReserve (a b : Bool) (p0 p1 q0 q1 : Int) (w : World) :
    Calls Try.prog 22 #[.agg #[.bool a, .bool b], .agg #[.int .i64 p0, .int .i64 p1, .int .i64 q0, .int .i64 q1]] w fun e w' => e = .returned (.int .i64 (if a && b then min p0 q0 else if a then p0 else if b then q0 else 0)) ∧ Below w.heap.size w w' := by
  cases a <;> cases b
  all_goals
    go_enter Try.func22, Try.ntmps22
    go_wp2
    all_goals
      go_ret
      exact ⟨ret_i64 (by first | rfl | (simp; done) | omega), by go_grown⟩
theorem asC (i : MI) (w : World) :
    Calls Try.prog 21 #[i.v] w fun e w' => e = .returned i.v ∧ Below w.heap.size w w' := by
  obtain ⟨ext, shed, land, ret, clears, u0, u1, u2, u3, locks, way, boot, res⟩ := i
  unfold MI.v
  go_enter Try.func21, Try.ntmps21
  go_wp2
  refine bodyPost_ret (v := .agg #[.bool ext, .bool shed, .bool land, .bool ret, .int .i64 clears, .bool u0, .bool u1, .bool u2, .bool u3, .bool locks, .bool way, .bool boot, .int .i64 res]) (by simp [results, Try.results21, go_sem]) rfl ⟨rfl, ?_⟩
  go_grown
set_option maxHeartbeats 4000000 in
theorem refModeC (c : CF) (hc : c.Ok) (oc fe : Value) (mode : Int) (i : MI) (w : World) :
    Calls Try.prog 20 #[.agg (cfgA c oc fe), .int .i64 mode, i.v] w fun e w' => e = .returned (.int .i64 (nextI (c.eland + c.margin) mode i)) ∧ Below w.heap.size w w' := by
  have hl := hc.l; have hm := hc.m
  have g24 : (cfgA c oc fe)[24]? = some (.int .i64 c.eland) := rfl
  have g25 : (cfgA c oc fe)[25]? = some (.int .i64 c.margin) := rfl
  obtain ⟨ext, shed, land, ret, clears, u0, u1, u2, u3, locks, way, boot, res⟩ := i
  obtain ⟨r, hr⟩ : ∃ r, nextI (c.eland + c.margin) mode ⟨ext, shed, land, ret, clears, u0, u1, u2, u3, locks, way, boot, res⟩ = r := ⟨_, rfl⟩
  rw [hr]
  unfold nextI belowI at hr
  rw [satId2 _ (by unfold I64; omega)] at hr
  have HR := Lib.hid hr
  clear hr
  simp only [MI.v]
  cases boot <;> cases h4 : (mode == 4) <;> cases land
  all_goals
    go_enter Try.func20, Try.ntmps20
    go_wp2
    all_goals
      go_ret
      refine ⟨ret_i64 ?_, by go_grown⟩
      have hr := HR.out
      clear HR
      try simp_all
      all_goals (try (subst hr; (repeat' split) <;> first | rfl | omega | (simp_all; done) | (simp_all; omega)))
end Go.Proofs.Ytomjhoaffbjkgaa
