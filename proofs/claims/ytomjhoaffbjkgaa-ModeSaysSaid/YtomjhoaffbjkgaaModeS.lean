/- ModeSays holds: each call returns true. Conditions: the arguments are numbers of 64 bits and bools. -/
import Derived.Test.YtomjhoaffbjkgaaModeR
import Derived.Test.YtomjhoaffbjkgaaReach
namespace Go.Proofs.Ytomjhoaffbjkgaa
open Go.RowKit
set_option linter.unusedVariables false
theorem quiet_load_row {P : Program} {o : Oper} {a : Act} {C : World → Prop} {K : Act → Prop} (ty : TypeId) (x : Operand) (ho : o.op = .load ty x)
    (g : Nat) (hx : a.eval x = .pointer (some ⟨g, 0, none⟩)) (t : TypeId) (cs : Array Value) (fr : Nat × Nat) (d : TypeDesc) (hg : ∀ w, C w → w.heap[g]? = some (.cells cs t fr))
    (hu : P.underlying ty = some d) (hd : (match d with | .struct _ | .array _ _ => true | _ => false) = true) (hi : (P.info? ty).map (·.size) = some cs.size)
    (hk : K (a.put o.dst (.agg cs))) : o.quiet P a C K := by
  refine ⟨.agg cs, fun w hw => ?_, hk⟩
  unfold Oper.quietAt execOp
  simp only [ho, hx, Instr.loadAt, Instr.sureAddr, Sem.run_bind, Sem.run_pure, Result.andThen_ok, run_loadVar_row w g t ty cs fr d (hg w hw) hu hd hi]
  exact ⟨rfl, rfl⟩
theorem rowB {w w' : World} {B : Nat} {o : Obj} (hb : Below w.heap.size w w') (h : w.heap[B]? = some o) : w'.heap[B]? = some o := (hb.block B (Array.getElem?_eq_some_iff.1 h).1).trans h
theorem boxes3 {w w1 : World} {A B C : Array Value} {s t u : TypeId} (hb : Below (((w.alloc (.cells A s)).alloc (.cells B t)).alloc (.cells C u)).heap.size (((w.alloc (.cells A s)).alloc (.cells B t)).alloc (.cells C u)) w1) :
    w1.heap[w.heap.size]? = some (.cells A s (0, 0)) ∧ w1.heap[w.heap.size + 1]? = some (.cells B t (0, 0)) ∧ w1.heap[w.heap.size + 1 + 1]? = some (.cells C u (0, 0)) ∧ Below w.heap.size w w1 ∧ w.heap.size + 3 ≤ w1.heap.size := by
  have b := boxes2 (w := w) (A := A) (B := B) (s := s) (t := t) (Below.refl _ _)
  have c := (Below.refl ((w.alloc (.cells A s)).alloc (.cells B t)).heap.size ((w.alloc (.cells A s)).alloc (.cells B t))).alloc (Nat.le_refl _) (.cells C u)
  have n := heap_alloc_new ((w.alloc (.cells A s)).alloc (.cells B t)) (.cells C u)
  have hs := hb.size
  simp only [World.size_alloc] at n hs
  exact ⟨rowB hb (rowB c b.1), rowB hb (rowB c b.2.1), rowB hb n, (b.2.2.1.trans (c.mono b.2.2.1.size)).trans (hb.mono (by simp; omega)), by omega⟩
set_option maxRecDepth 100000 in
set_option maxHeartbeats 8000000 in
theorem walkModeSays (a0 : Int) (a1 : Int) (a2 : Int) (a3 : Int) (a4_0 : Bool) (a4_1 : Bool) (a4_2 : Bool) (a4_3 : Bool) (a4_4 : Int) (a4_5 : Bool) (a4_6 : Bool) (a4_7 : Bool) (a4_8 : Bool) (a4_9 : Bool) (a4_10 : Bool) (a4_11 : Bool) (a4_12 : Int) (a5_0 : Bool) (a5_1 : Bool) (a6_0 : Int) (a6_1 : Int) (a6_2 : Int) (a6_3 : Int) (w : World) (w0 : (Lit.int .i64 a0).wf = true) (w1 : (Lit.int .i64 a1).wf = true) (w2 : (Lit.int .i64 a2).wf = true) (w3 : (Lit.int .i64 a3).wf = true) (w4_4 : (Lit.int .i64 a4_4).wf = true) (w4_12 : (Lit.int .i64 a4_12).wf = true) (w6_0 : (Lit.int .i64 a6_0).wf = true) (w6_1 : (Lit.int .i64 a6_1).wf = true) (w6_2 : (Lit.int .i64 a6_2).wf = true) (w6_3 : (Lit.int .i64 a6_3).wf = true) :
    Calls Try.prog 6 #[.int .i64 a0, .int .i64 a1, .int .i64 a2, .int .i64 a3, .agg #[.bool a4_0, .bool a4_1, .bool a4_2, .bool a4_3, .int .i64 a4_4, .bool a4_5, .bool a4_6, .bool a4_7, .bool a4_8, .bool a4_9, .bool a4_10, .bool a4_11, .int .i64 a4_12], .agg #[.bool a5_0, .bool a5_1], .agg #[.int .i64 a6_0, .int .i64 a6_1, .int .i64 a6_2, .int .i64 a6_3]] w fun e w' => e = .returned (.bool true) ∧ Below w.heap.size w w' := by
  clear w0 w1 w2 w3 w4_4 w4_12 w6_0 w6_1 w6_2 w6_3
  have N3 := Lib.hid fun (w : World) => numberC a3 5 (by omega) (by omega) w
  have hn1 := Int.emod_nonneg a3 (show (5 : Int) ≠ 0 by omega)
  have hn2 := Int.emod_lt_of_pos a3 (show (0 : Int) < 5 by omega)
  generalize a3 % 5 = m at *
  have KA := Lib.hid fun (w : World) => asC ⟨a4_0, a4_1, a4_2, a4_3, a4_4, a4_5, a4_6, a4_7, a4_8, a4_9, a4_10, a4_11, a4_12⟩ w
  have KR := Lib.hid fun (w : World) => reserveC a5_0 a5_1 a6_0 a6_1 a6_2 a6_3 w
  have KS := Lib.hid fun (w : World) => refReserve a5_0 a5_1 a6_0 a6_1 a6_2 a6_3 w
  generalize (if (a5_0 && a5_1) = true then min a6_0 a6_2 else if a5_0 = true then a6_0 else if a5_1 = true then a6_2 else 0) = rs at *
  have q1 : (rs == rs) = true := by simp
  go_enter Try.func6, Try.ntmps6
  go_wp2_with fail
  refine (first26 _).mono ?_
  rintro e w1 ⟨rfl, hb⟩
  obtain ⟨r0, r1, r2, B1, s1⟩ := boxes3 hb
  have BB := Lib.hid B1
  have R0 := Lib.hid r0
  have R1 := Lib.hid r1
  have R2 := Lib.hid r2
  clear hb r0 r1 r2 B1
  go_wp2_with fail
  refine (configC _ _ _ _).mono ?_
  rintro e w2 ⟨O, fa, fl, fc, rfl, hO, hv, hb1⟩
  have hk := cfgOf_ok (a0 % 1048576) (a1 % 1048576) (a2 % 1048576)
  generalize cfgOf (a0 % 1048576) (a1 % 1048576) (a2 % 1048576) = c at *
  simp only [cfgV]
  go_wp2_with fail
  refine upon_fresh (by simp) rfl (cfgA_one rfl rfl) ?_
  intro W1 b1 s1' h1
  have hr0 := rowB b1 (rowB hb1 R0.out)
  have hr1 := rowB b1 (rowB hb1 R1.out)
  have hr2 := rowB b1 (rowB hb1 R2.out)
  have BX := BB.out.trans (hb1.mono BB.out.size)
  have BY := Lib.hid (BX.trans (b1.mono BX.size))
  have hC : w2.heap.size < W1.heap.size := (Array.getElem?_eq_some_iff.1 h1).1
  have n0 : w.heap.size < W1.heap.size := (Array.getElem?_eq_some_iff.1 hr0).1
  have n1 : w.heap.size + 1 < W1.heap.size := (Array.getElem?_eq_some_iff.1 hr1).1
  have n2 : w.heap.size + 1 + 1 < W1.heap.size := (Array.getElem?_eq_some_iff.1 hr2).1
  have k1 : ∀ w : World, Calls Try.prog 18 #[.agg #[.int .i64 c.D, .int .i64 c.B, .int .i64 c.S, .int .i64 c.P, .int .i64 c.H, .int .i64 100000, .int .i64 0, .int .i64 500, .int .i64 20000, .int .i64 10000, .int .i64 12000, .int .i64 3000, .int .i64 4200, .int .i64 300, .int .i64 600, .int .i64 1000, .int .i64 20, .int .i64 100, .int .i64 c.err, .int .i64 50, .slice (some ⟨O, 0, none⟩) 4 4, .int .i64 3000, .int .i64 500, .int .i64 3000, .int .i64 c.eland, .int .i64 c.margin, .slice fa fl fc], .int .i64 (m + 1), .agg #[.bool a4_0, .bool a4_1, .bool a4_2, .bool a4_3, .int .i64 a4_4, .bool a4_5, .bool a4_6, .bool a4_7, .bool a4_8, .bool a4_9, .bool a4_10, .bool a4_11, .int .i64 a4_12]] w fun e w' => e = .returned (.int .i64 (nextI (c.eland + c.margin) (m + 1) ⟨a4_0, a4_1, a4_2, a4_3, a4_4, a4_5, a4_6, a4_7, a4_8, a4_9, a4_10, a4_11, a4_12⟩)) ∧ Below w.heap.size w w' := fun w => nextCfg c hk (.slice (some ⟨O, 0, none⟩) 4 4) (.slice fa fl fc) (m + 1) ⟨a4_0, a4_1, a4_2, a4_3, a4_4, a4_5, a4_6, a4_7, a4_8, a4_9, a4_10, a4_11, a4_12⟩ w
  have k2 : ∀ w : World, Calls Try.prog 20 #[.agg #[.int .i64 c.D, .int .i64 c.B, .int .i64 c.S, .int .i64 c.P, .int .i64 c.H, .int .i64 100000, .int .i64 0, .int .i64 500, .int .i64 20000, .int .i64 10000, .int .i64 12000, .int .i64 3000, .int .i64 4200, .int .i64 300, .int .i64 600, .int .i64 1000, .int .i64 20, .int .i64 100, .int .i64 c.err, .int .i64 50, .slice (some ⟨O, 0, none⟩) 4 4, .int .i64 3000, .int .i64 500, .int .i64 3000, .int .i64 c.eland, .int .i64 c.margin, .slice fa fl fc], .int .i64 (m + 1), .agg #[.bool a4_0, .bool a4_1, .bool a4_2, .bool a4_3, .int .i64 a4_4, .bool a4_5, .bool a4_6, .bool a4_7, .bool a4_8, .bool a4_9, .bool a4_10, .bool a4_11, .int .i64 a4_12]] w fun e w' => e = .returned (.int .i64 (nextI (c.eland + c.margin) (m + 1) ⟨a4_0, a4_1, a4_2, a4_3, a4_4, a4_5, a4_6, a4_7, a4_8, a4_9, a4_10, a4_11, a4_12⟩)) ∧ Below w.heap.size w w' := fun w => refModeC c hk (.slice (some ⟨O, 0, none⟩) 4 4) (.slice fa fl fc) (m + 1) ⟨a4_0, a4_1, a4_2, a4_3, a4_4, a4_5, a4_6, a4_7, a4_8, a4_9, a4_10, a4_11, a4_12⟩ w
  have k3 : ∀ w : World, Calls Try.prog 21 #[.agg #[.bool a4_0, .bool a4_1, .bool a4_2, .bool a4_3, .int .i64 a4_4, .bool a4_5, .bool a4_6, .bool a4_7, .bool a4_8, .bool a4_9, .bool a4_10, .bool a4_11, .int .i64 a4_12]] w fun e w' => e = .returned (.agg #[.bool a4_0, .bool a4_1, .bool a4_2, .bool a4_3, .int .i64 a4_4, .bool a4_5, .bool a4_6, .bool a4_7, .bool a4_8, .bool a4_9, .bool a4_10, .bool a4_11, .int .i64 a4_12]) ∧ Below w.heap.size w w' := fun w => asC ⟨a4_0, a4_1, a4_2, a4_3, a4_4, a4_5, a4_6, a4_7, a4_8, a4_9, a4_10, a4_11, a4_12⟩ w
  generalize nextI (c.eland + c.margin) (m + 1) ⟨a4_0, a4_1, a4_2, a4_3, a4_4, a4_5, a4_6, a4_7, a4_8, a4_9, a4_10, a4_11, a4_12⟩ = nx at *
  have q2 : (nx == nx) = true := by simp
  have K1 := Lib.hid k1
  have K2 := Lib.hid k2
  have K3 := Lib.hid k3
  have H1 := Lib.hid h1
  have Z0 := Lib.hid hr0
  have Z1 := Lib.hid hr1
  have Z2 := Lib.hid hr2
  clear s1'
  clear k1 k2 k3 h1 hr0 hr1 hr2 b1 hb1 hv BX BB R0 R1 R2 KA hO hk
  have hB : W1.heap.size ≤ W1.heap.size := Nat.le_refl _
  go_wp2_with fail
  refine (N3.out _).mono ?_
  rintro e w' ⟨rfl, rfl⟩
  go_wp2_with fail
  refine wp_region_reach W1.heap.size (by kernel_rfl) (by kernel_rfl) ?_
  have HG := Lib.hid (fun (w' : World) (hw : ∃ d, w' = reach W1.heap.size W1 d) => (show w'.heap[w2.heap.size]? = some (.cells #[.int .i64 c.D, .int .i64 c.B, .int .i64 c.S, .int .i64 c.P, .int .i64 c.H, .int .i64 100000, .int .i64 0, .int .i64 500, .int .i64 20000, .int .i64 10000, .int .i64 12000, .int .i64 3000, .int .i64 4200, .int .i64 300, .int .i64 600, .int .i64 1000, .int .i64 20, .int .i64 100, .int .i64 c.err, .int .i64 50, .slice (some ⟨O, 0, none⟩) 4 4, .int .i64 3000, .int .i64 500, .int .i64 3000, .int .i64 c.eland, .int .i64 c.margin, .slice fa fl fc] 34 (0, 0)) by obtain ⟨d, rfl⟩ := hw; exact ((reach_below _ _ d).block _ hC).trans H1.out))
  have HI := Lib.hid (fun (w' : World) (hw : ∃ d, w' = reach W1.heap.size W1 d) => (show w'.heap[w.heap.size]? = some (.cells #[.bool a4_0, .bool a4_1, .bool a4_2, .bool a4_3, .int .i64 a4_4, .bool a4_5, .bool a4_6, .bool a4_7, .bool a4_8, .bool a4_9, .bool a4_10, .bool a4_11, .int .i64 a4_12] 38 (0, 0)) by obtain ⟨d, rfl⟩ := hw; exact ((reach_below _ _ d).block _ n0).trans Z0.out))
  have HU := Lib.hid (fun (w' : World) (hw : ∃ d, w' = reach W1.heap.size W1 d) => (show w'.heap[w.heap.size + 1]? = some (.cells #[.bool a5_0, .bool a5_1] 26 (0, 0)) by obtain ⟨d, rfl⟩ := hw; exact ((reach_below _ _ d).block _ n1).trans Z1.out))
  have HQ := Lib.hid (fun (w' : World) (hw : ∃ d, w' = reach W1.heap.size W1 d) => (show w'.heap[w.heap.size + 1 + 1]? = some (.cells #[.int .i64 a6_0, .int .i64 a6_1, .int .i64 a6_2, .int .i64 a6_3] 27 (0, 0)) by obtain ⟨d, rfl⟩ := hw; exact ((reach_below _ _ d).block _ n2).trans Z2.out))
  repeat (first | (go_big_quiet_want; refine quiet_load_row 38 _ rfl (w.heap.size) rfl 38 _ (0, 0) _ HI.out Try.underlying38 rfl (by kernel_rfl) ?_; go_big_quiet_on; simp only [Act.put, List.setIfInBounds_toArray, List.set_cons_succ, List.set_cons_zero]) | (go_big_quiet_want; refine quiet_load_row 26 _ rfl (w.heap.size + 1) rfl 26 _ (0, 0) _ HU.out Try.underlying26 rfl (by kernel_rfl) ?_; go_big_quiet_on; simp only [Act.put, List.setIfInBounds_toArray, List.set_cons_succ, List.set_cons_zero]) | (go_big_quiet_want; refine quiet_load_row 27 _ rfl (w.heap.size + 1 + 1) rfl 27 _ (0, 0) _ HQ.out Try.underlying27 rfl (by kernel_rfl) ?_; go_big_quiet_on; simp only [Act.put, List.setIfInBounds_toArray, List.set_cons_succ, List.set_cons_zero]) | (go_big_quiet_want; refine quiet_load_row 34 _ rfl w2.heap.size rfl 34 _ (0, 0) _ HG.out Try.underlying34 rfl (by kernel_rfl) ?_; go_big_quiet_on; simp only [Act.put, List.setIfInBounds_toArray, List.set_cons_succ, List.set_cons_zero]) | go_big_quiet_step ((first | (go_at_call 18; with_reducible exact reach_call hB (K1.out _)) | (go_at_call 20; with_reducible exact reach_call hB (K2.out _)) | (go_at_call 21; with_reducible exact reach_call hB (K3.out _)) | (go_at_call 16; with_reducible exact reach_call hB (KR.out _)) | (go_at_call 22; with_reducible exact reach_call hB (KS.out _)))))
  all_goals (refine wpQuiet_nil ?_)
  all_goals (rintro w' ⟨d, rfl⟩)
  all_goals go_wp2
  all_goals go_ret
  exact ⟨rfl, BY.out.trans ((reach_below _ _ d).mono BY.out.size)⟩
end Go.Proofs.Ytomjhoaffbjkgaa
