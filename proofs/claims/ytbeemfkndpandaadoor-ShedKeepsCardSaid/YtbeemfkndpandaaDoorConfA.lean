/- A configuration of any numbers, and what config asks of each. Conditions: the seven errors lie apart. -/
import Derived.Test.YtbeemfkndpandaaDoorCfgF
import Derived.Test.YtbeemfkndpandaaDoorErrF
import Derived.Test.YtbeemfkndpandaaDoorBox2
import Derived.Test.YtbeemfkndpandaaDoorTabX
import Derived.Lib.Hide
namespace Go.Proofs.YtbeemfkndpandaaDoor
open Go.RowKit
set_option linter.unusedVariables false
set_option maxRecDepth 20000
/-- The numbers of a configuration. -/
structure CG where
  D : Int
  B : Int
  S : Int
  P : Int
  H : Int
  Cap : Int
  Qmin : Int
  Imax : Int
  Trip : Int
  Vmin : Int
  Vdark : Int
  CellMin : Int
  CellMax : Int
  CellGap : Int
  TempMax : Int
  Coil : Int
  Ohm : Int
  SagErr : Int
  AmpErr : Int
  Drift : Int
  GenMax : Int
  BatMax : Int
  ExtMax : Int
  Eland : Int
  Margin : Int
def cgA (c : CG) (oc fe : Value) : Array Value := #[.int .i64 c.D, .int .i64 c.B, .int .i64 c.S, .int .i64 c.P, .int .i64 c.H, .int .i64 c.Cap, .int .i64 c.Qmin, .int .i64 c.Imax, .int .i64 c.Trip, .int .i64 c.Vmin, .int .i64 c.Vdark, .int .i64 c.CellMin, .int .i64 c.CellMax, .int .i64 c.CellGap, .int .i64 c.TempMax, .int .i64 c.Coil, .int .i64 c.Ohm, .int .i64 c.SagErr, .int .i64 c.AmpErr, .int .i64 c.Drift, oc, .int .i64 c.GenMax, .int .i64 c.BatMax, .int .i64 c.ExtMax, .int .i64 c.Eland, .int .i64 c.Margin, fe]
/-- Those that dynamomake makes. -/
def CF.cg (c : CF) : CG := ⟨c.D, c.B, c.S, c.P, c.H, 100000, 0, 500, 20000, 10000, 12000, 3000, 4200, 300, 600, 1000, 20, 100, c.err, 50, 3000, 500, 3000, c.eland, c.margin⟩
theorem cgA_of (c : CF) (oc fe : Value) : cfgA c oc fe = cgA c.cg oc fe := rfl
def inB (x lo hi : Int) : Bool := decide (lo ≤ x) && decide (x ≤ hi)
set_option maxHeartbeats 4000000 in
theorem inC (x lo hi : Int) (w : World) : Calls Tryd.prog 57 #[.int .i64 x, .int .i64 lo, .int .i64 hi] w fun e w' => e = .returned (.bool (inB x lo hi)) ∧ w = w' := by
  have KC := Lib.hid (fun (w : World) => (show Calls Tryd.prog 65 #[.int .i64 x, .int .i64 lo, .int .i64 hi] w fun e w' => e = .returned (.int .i64 (max (min x hi) lo)) ∧ w = w' by
    go_enter Tryd.func65, Tryd.ntmps65
    go_wp2
    all_goals
      go_ret
      refine ⟨?_, rfl⟩
      have rb : ∀ {a b : Int}, a = b → Ending.returned (.int .i64 a) = .returned (.int .i64 b) := fun h => by rw [h]
      exact rb (by omega)))
  go_enter Tryd.func57, Tryd.ntmps57
  by_cases q : lo ≤ hi
  · have g1 : decide (lo ≤ hi) = true := decide_eq_true q
    go_wp2_with fail
    refine (KC.out _).mono ?_
    rintro e w' ⟨rfl, rfl⟩
    have g2 : (max (min x hi) lo == x) = inB x lo hi := by
      rw [Bool.eq_iff_iff]
      simp [inB]
      omega
    go_wp2_with fail
    go_returns
    exact ⟨rfl, rfl⟩
  · have g1 : decide (lo ≤ hi) = false := decide_eq_false q
    have g2 : inB x lo hi = false := by
      unfold inB
      rw [Bool.and_eq_false_iff]
      by_cases h : lo ≤ x
      · exact .inr (decide_eq_false (by omega))
      · exact .inl (decide_eq_false h)
    rw [g2]
    go_wp2_with fail
    go_returns
    exact ⟨rfl, rfl⟩
theorem quiet_load_row {P : Program} {o : Oper} {a : Act} {C : World → Prop} {K : Act → Prop} (ty : TypeId) (x : Operand) (ho : o.op = .load ty x)
    (g : Nat) (hx : a.eval x = .pointer (some ⟨g, 0, none⟩)) (t : TypeId) (cs : Array Value) (fr : Nat × Nat) (d : TypeDesc) (hg : ∀ w, C w → w.heap[g]? = some (.cells cs t fr))
    (hu : P.underlying ty = some d) (hd : (match d with | .struct _ | .array _ _ => true | _ => false) = true) (hi : (P.info? ty).map (·.size) = some cs.size)
    (hk : K (a.put o.dst (.agg cs))) : o.quiet P a C K := by
  refine ⟨.agg cs, fun w hw => ?_, hk⟩
  unfold Oper.quietAt execOp
  simp only [ho, hx, Instr.loadAt, Instr.sureAddr, Sem.run_bind, Sem.run_pure, Result.andThen_ok, run_loadVar_row w g t ty cs fr d (hg w hw) hu hd hi]
  exact ⟨rfl, rfl⟩
set_option maxHeartbeats 4000000 in
theorem bootC (c : CG) (oc fe : Value) (hB : 0 ≤ c.B ∧ c.B ≤ 100000) (hS : 0 ≤ c.S ∧ c.S ≤ 100000) (w : World) : Calls Tryd.prog 34 #[.agg (cgA c oc fe)] w fun e w' => e = .returned (.int .i64 (c.B + c.S)) ∧ Below w.heap.size w w' := by
  have v1 : IntKind.i64.wrap (c.B + c.S) = c.B + c.S := IntWalk.i64_in _ (by omega)
  go_enter Tryd.func34, Tryd.ntmps34
  go_upto_region 1 with fail
  have B0 := Lib.hid (Bx.new w (cgA c oc fe) 31)
  generalize World.alloc w _ = W at *
  have x1 : W.cell? ⟨w.heap.size, 1, none⟩ = some (.int .i64 c.B) := B0.out.cell 1 rfl
  have x2 : W.cell? ⟨w.heap.size, 2, none⟩ = some (.int .i64 c.S) := B0.out.cell 2 rfl
  have s1 := fun d => below_cell (reach_below W.heap.size W d) x1
  have s2 := fun d => below_cell (reach_below W.heap.size W d) x2
  go_wp2_with fail
  go_returns
  exact ⟨rfl, B0.out.lo⟩
set_option maxHeartbeats 4000000 in
theorem boundC (c : CG) (oc fe : Value) (hD : 0 ≤ c.D ∧ c.D ≤ 100000) (hB : 0 ≤ c.B ∧ c.B ≤ 100000) (hS : 0 ≤ c.S ∧ c.S ≤ 100000) (w : World) : Calls Tryd.prog 36 #[.agg (cgA c oc fe)] w fun e w' => e = .returned (.int .i64 (c.B + c.S + 6 * (c.B + c.S) + 6 * (c.D + 2))) ∧ Below w.heap.size w w' := by
  have v1 : IntKind.i64.wrap (c.B + c.S) = c.B + c.S := IntWalk.i64_in _ (by omega)
  have v2 : IntKind.i64.wrap (c.D + 2) = c.D + 2 := IntWalk.i64_in _ (by omega)
  have v3 : IntKind.i64.wrap (6 * (c.B + c.S)) = 6 * (c.B + c.S) := IntWalk.i64_in _ (by omega)
  have v4 : IntKind.i64.wrap (6 * (c.D + 2)) = 6 * (c.D + 2) := IntWalk.i64_in _ (by omega)
  have v5 : IntKind.i64.wrap (c.B + c.S + 6 * (c.B + c.S)) = c.B + c.S + 6 * (c.B + c.S) := IntWalk.i64_in _ (by omega)
  have v6 : IntKind.i64.wrap (c.B + c.S + 6 * (c.B + c.S) + 6 * (c.D + 2)) = c.B + c.S + 6 * (c.B + c.S) + 6 * (c.D + 2) := IntWalk.i64_in _ (by omega)
  have KB := Lib.hid fun (w : World) => bootC c oc fe hB hS w
  go_enter Tryd.func36, Tryd.ntmps36
  go_upto_region 1 with fail
  have B0 := Lib.hid (Bx.new w (cgA c oc fe) 31)
  generalize World.alloc w _ = W at *
  have hB : W.heap.size ≤ W.heap.size := Nat.le_refl _
  have x0 : W.cell? ⟨w.heap.size, 0, none⟩ = some (.int .i64 c.D) := B0.out.cell 0 rfl
  have x1 : W.cell? ⟨w.heap.size, 1, none⟩ = some (.int .i64 c.B) := B0.out.cell 1 rfl
  have x2 : W.cell? ⟨w.heap.size, 2, none⟩ = some (.int .i64 c.S) := B0.out.cell 2 rfl
  have s0 := fun d => below_cell (reach_below W.heap.size W d) x0
  have s1 := fun d => below_cell (reach_below W.heap.size W d) x1
  have s2 := fun d => below_cell (reach_below W.heap.size W d) x2
  have HG := Lib.hid (fun (w' : World) (hw : ∃ d, w' = reach W.heap.size W d) => (show w'.heap[w.heap.size]? = some (.cells (cgA c oc fe) 31 (0, 0)) by obtain ⟨d, rfl⟩ := hw; exact ((reach_below _ _ d).block _ B0.out.size).trans B0.out.row))
  refine wp_region_reach W.heap.size (by kernel_rfl) (by kernel_rfl) ?_
  repeat (first | (go_big_quiet_want; refine quiet_load_row 31 _ rfl (w.heap.size) rfl 31 _ (0, 0) _ HG.out Tryd.underlying31 rfl (by kernel_rfl) ?_; go_big_quiet_on; simp only [Act.put, List.setIfInBounds_toArray, List.set_cons_succ, List.set_cons_zero]) | go_big_quiet_step ((go_at_call 34; with_reducible exact reach_call hB (KB.out _))))
  refine wpQuiet_nil ?_
  rintro w' ⟨d, rfl⟩
  have B1 := Lib.hid (B0.out.reach d)
  clear s0 s1 s2 HG x0 x1 x2
  generalize reach W.heap.size W d = W2 at *
  go_wp2_with fail
  go_returns
  exact ⟨rfl, B1.out.lo⟩
end Go.Proofs.YtbeemfkndpandaaDoor
