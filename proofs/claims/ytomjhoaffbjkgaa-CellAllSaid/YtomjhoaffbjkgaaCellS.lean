/- CellSays holds: each call returns true. Conditions: the arguments are numbers of 64 bits, four samples, a sample. -/
import Derived.Test.YtomjhoaffbjkgaaCellR
import Derived.Test.YtomjhoaffbjkgaaTail
import Derived.Test.YtomjhoaffbjkgaaFlat
import Derived.BigQuiet
namespace Go.Proofs.Ytomjhoaffbjkgaa
open Go.RowKit
set_option linter.unusedVariables false
theorem quiet_load_row {P : Program} {o : Oper} {a : Act} {C : World → Prop} {K : Act → Prop} (ty : TypeId) (x : Operand) (ho : o.op = .load ty x)
    (g : Nat) (hx : a.eval x = .pointer (some ⟨g, 0, none⟩)) (t : TypeId) (cs : Array Value) (fr : Nat × Nat) (d : TypeDesc) (hg : ∀ w, C w → w.heap[g]? = some (.cells cs t fr))
    (hu : P.underlying ty = some d) (hd : (match d with | .struct _ | .array _ _ => true | _ => false) = true) (hi : (P.info? ty).map (·.size) = some cs.size)
    (hk : K (a.put o.dst (.agg cs))) : o.quiet P a C K := by
  refine ⟨.agg cs, fun w hw => ?_, hk⟩
  unfold Oper.quietAt execOp
  simp only [ho, hx, Instr.loadAt, Instr.sureAddr, Sem.run_bind, Sem.run_pure, Result.andThen_ok, run_loadVar_row w g t ty cs fr d (hg w hw) hu hd hi]
  exact ⟨rfl, rfl⟩
def badB (f : Int) : Bool := bits .and .i64 f 15 != 0
theorem badC (f : Int) (w : World) : Calls Try.prog 25 #[.int .i64 f] w fun e w' => e = .returned (.bool (badB f)) ∧ w = w' := by
  unfold badB
  go_enter Try.func25, Try.ntmps25
  go_wp2_with fail
  go_ret
  exact ⟨rfl, rfl⟩
theorem refBadC (f : Int) (w : World) : Calls Try.prog 27 #[.int .i64 f] w fun e w' => e = .returned (.bool (badB f)) ∧ w = w' := by
  unfold badB
  go_enter Try.func27, Try.ntmps27
  go_wp2_with fail
  go_ret
  exact ⟨rfl, rfl⟩
def cfg0 : Array Value := #[.int .i64 0, .int .i64 0, .int .i64 0, .int .i64 0, .int .i64 0, .int .i64 0, .int .i64 0, .int .i64 0, .int .i64 0, .int .i64 0, .int .i64 0, .int .i64 0, .int .i64 0, .int .i64 0, .int .i64 0, .int .i64 0, .int .i64 0, .int .i64 0, .int .i64 0, .int .i64 0, .slice none 0 0, .int .i64 0, .int .i64 0, .int .i64 0, .int .i64 0, .int .i64 0, .slice none 0 0]
theorem wpList_build_f {P : Program} {ops : Array Oper} {rest : List Oper} {o : Oper} {a : Act} {w : World} {Q : Exit → Act → World → Prop} (hg : o.guard = none) (t : TypeId) (parts : Array (Nat × Operand)) (ho : o.op = .build t parts)
    (cells : Array Value) (hf : P.built t (parts.map fun (i, x) => (i, a.eval x)).toList = some cells)
    (h : wpList P ops Q rest (a.put o.dst (.agg cells)) w) : wpList P ops Q (o :: rest) a w :=
  wpList_build hg t parts ho (by rw [hf]; rfl) (by rw [hf]; exact h)
theorem first15 (w : World) : Calls Try.prog 23 #[] w fun e w' => e = .returned (.bool true) ∧ Below w.heap.size w w' := by
  have K := Lib.hid fun (w : World) => flagsC cfg0 0 0 0 0 rfl rfl rfl rfl rfl (fun _ => 0) (fun _ => false) (fun i _ => ⟨show (0 : Int) ≤ 0 by omega, show (0 : Int) ≤ 6000 by omega⟩) 0 false w
  rw [show flagsL 0 0 0 0 (volts (fun _ => 0) (fun _ => false) 4) 0 false = 16 from rfl] at K
  have K8 := Lib.hid fun (w : World) => badC 8 w
  rw [show badB 8 = true from rfl] at K8
  have K16 := Lib.hid fun (w : World) => badC 16 w
  rw [show badB 16 = false from rfl] at K16
  go_enter Try.func23, Try.ntmps23
  go_wp2_with (refine wpList_build_f rfl 34 _ rfl cfg0 (by kernel_rfl) ?_)
  refine (K.out _).mono ?_
  rintro e w1 ⟨rfl, hb⟩
  have HB := Lib.hid hb
  clear hb
  go_wp2_with fail
  refine (K8.out _).mono ?_
  rintro e w' ⟨rfl, rfl⟩
  go_wp2_with fail
  refine (K16.out _).mono ?_
  rintro e w' ⟨rfl, rfl⟩
  go_wp2_with fail
  go_ret
  exact ⟨rfl, HB.out⟩
set_option maxRecDepth 100000 in
set_option maxHeartbeats 8000000 in
theorem walkCellSays (a0 : Int) (a1 : Int) (a2 : Int) (a3_0 : Int) (a3_1 : Bool) (a3_2 : Int) (a3_3 : Bool) (a3_4 : Int) (a3_5 : Bool) (a3_6 : Int) (a3_7 : Bool) (a4_0 : Int) (a4_1 : Bool) (a5 : Int) (w : World) (w0 : (Lit.int .i64 a0).wf = true) (w1 : (Lit.int .i64 a1).wf = true) (w2 : (Lit.int .i64 a2).wf = true) (w3_0 : (Lit.int .i64 a3_0).wf = true) (w3_2 : (Lit.int .i64 a3_2).wf = true) (w3_4 : (Lit.int .i64 a3_4).wf = true) (w3_6 : (Lit.int .i64 a3_6).wf = true) (w4_0 : (Lit.int .i64 a4_0).wf = true) (w5 : (Lit.int .i64 a5).wf = true) :
    Calls Try.prog 10 #[.int .i64 a0, .int .i64 a1, .int .i64 a2, .agg #[.int .i64 a3_0, .bool a3_1, .int .i64 a3_2, .bool a3_3, .int .i64 a3_4, .bool a3_5, .int .i64 a3_6, .bool a3_7], .agg #[.int .i64 a4_0, .bool a4_1], .int .i64 a5] w fun e w' => e = .returned (.bool true) ∧ Below w.heap.size w w' := by
  clear w0 w1 w2 w3_0 w3_2 w3_4 w3_6 w4_0 w5
  obtain ⟨v, f, hvf⟩ : ∃ (v : Nat → Int) (f : Nat → Bool), (#[.int .i64 a3_0, .bool a3_1, .int .i64 a3_2, .bool a3_3, .int .i64 a3_4, .bool a3_5, .int .i64 a3_6, .bool a3_7] : Array Value) = cellsA v f :=
    ⟨fun k => if k = 0 then a3_0 else if k = 1 then a3_2 else if k = 2 then a3_4 else a3_6, fun k => if k = 0 then a3_1 else if k = 1 then a3_3 else if k = 2 then a3_5 else a3_7, rfl⟩
  rw [hvf]
  clear hvf
  go_enter Try.func10, Try.ntmps10
  go_wp2_with fail
  refine (first15 _).mono ?_
  rintro e w1 ⟨rfl, hb⟩
  obtain ⟨r0, r1, B1, s1⟩ := boxes2 hb
  have BB := Lib.hid B1
  have R0 := Lib.hid r0
  have R1 := Lib.hid r1
  clear hb r0 r1 B1
  go_wp2_with fail
  refine (configC _ _ _ _).mono ?_
  rintro e w2 ⟨O, fa, fl, fc, rfl, hO, hv, hb1⟩
  generalize cfgOf (a0 % 1048576) (a1 % 1048576) (a2 % 1048576) = c at *
  simp only [cfgV]
  go_wp2_with fail
  refine upon_fresh (by simp) rfl (cfgA_one rfl rfl) ?_
  intro W1 b1 s1' h1
  have bb := hb1.trans (b1.mono hb1.size)
  have F1 := Lib.hid h1
  have F2 := Lib.hid ((bb.block _ (Array.getElem?_eq_some_iff.1 R0.out).1).trans R0.out)
  have F3 := Lib.hid ((bb.block _ (Array.getElem?_eq_some_iff.1 R1.out).1).trans R1.out)
  have F4 := Lib.hid (BB.out.trans (bb.mono BB.out.size))
  have BSZ := Lib.hid (show w.heap.size + 2 ≤ w2.heap.size from Nat.le_trans s1 hb1.size)
  clear hb1 b1 s1' h1 bb R0 R1 BB hv hO
  go_wp2_with fail
  go_loop [15] (fun i => ∃ k : Nat, k ≤ 4 ∧ i = .int .i64 k ∧ Hid (∀ j, j < k → 0 ≤ v j ∧ v j ≤ 6000)) (fun i => 4 - (intOf i).toNat)
  case atStart => exact ⟨0, by omega, rfl, fun j hj => by omega⟩
  case round =>
    obtain ⟨k, hk, rfl, hvk⟩ := hrel
    by_cases hlt : k < 4
    · obtain ⟨x0, x1⟩ := cells8 F2.out k hlt
      obtain ⟨z, hz⟩ : ∃ z, v k = z := ⟨_, rfl⟩
      rw [hz] at x0
      have HZ := Lib.hid hz
      clear hz
      go_wp2_with fail
      case roundEnd =>
        have hz2 : 0 ≤ z ∧ z ≤ 6000 := by omega
        go_round
        case rel => exact ⟨k + 1, by omega, by go_num, fun j hj => by
          by_cases hjk : j = k
          · rw [hjk, HZ.out]; exact hz2
          · exact hvk.out j (by omega)⟩
        case measure => simp [intOf]; omega
      all_goals
        go_ret
        exact ⟨rfl, F4.out⟩
    · obtain rfl : k = 4 := by omega
      have d0 : W1.cell? ⟨w.heap.size + 1, 0, none⟩ = some (.int .i64 a4_0) := cell_of_row _ _ 0 _ _ _ F3.out
      have f0 : W1.frozen? ⟨w.heap.size + 1, 0, none⟩ = false := by have := F3.out; simp [World.frozen?, this]
      go_upto_region 11 with fail
      obtain ⟨tv, htv⟩ : ∃ tv, a4_0.tmod 1501 = tv := ⟨_, rfl⟩
      rw [htv]
      clear htv
      generalize hW : World.setCell W1 _ _ = W4
      have hC : w2.heap.size < W1.heap.size := (Array.getElem?_eq_some_iff.1 F1.out).1
      have hne : w2.heap.size ≠ w.heap.size + 1 := by have := BSZ.out; omega
      obtain ⟨G1, G2, G3, G4, hs4⟩ : Hid (W4.heap[w2.heap.size]? = some (.cells (cfgA c (.slice (some ⟨O, 0, none⟩) 4 4) (.slice fa fl fc)) 34 (0, 0))) ∧ Hid (W4.heap[w.heap.size]? = some (.cells (cellsA v f) 51 (0, 0))) ∧ Hid (W4.heap[w.heap.size + 1]? = some (.cells #[.int .i64 tv, .bool a4_1] 50 (0, 0))) ∧ Hid (Below w.heap.size w W4) ∧ W4.heap.size = W1.heap.size := by
        rw [← hW]
        refine ⟨Lib.hid ((heap_setCell_other _ ⟨_, _, _⟩ _ _ hne).trans F1.out), Lib.hid ((heap_setCell_other _ ⟨_, _, _⟩ _ _ (show w.heap.size ≠ w.heap.size + 1 by omega)).trans F2.out), Lib.hid ?_, Lib.hid (F4.out.setCell (p := ⟨w.heap.size + 1, 0, none⟩) (show w.heap.size ≤ w.heap.size + 1 by omega) _), by simp⟩
        have := F3.out
        simp [World.setCell, Array.getElem?_modify, this]
      have n0 : w.heap.size < W1.heap.size := (Array.getElem?_eq_some_iff.1 F2.out).1
      have n1 : w.heap.size + 1 < W1.heap.size := (Array.getElem?_eq_some_iff.1 F3.out).1
      clear hW F1 F2 F3 F4 d0 f0 hne
      rw [← hs4] at hC n0 n1
      clear hs4
      have K1 := Lib.hid fun (w : World) => flagsC (cfgA c (.slice (some ⟨O, 0, none⟩) 4 4) (.slice fa fl fc)) 3000 4200 300 600 rfl rfl rfl rfl rfl v f hvk.out tv a4_1 w
      have K2 := Lib.hid fun (w : World) => refFlagsC (cfgA c (.slice (some ⟨O, 0, none⟩) 4 4) (.slice fa fl fc)) 3000 4200 300 600 rfl rfl rfl rfl v f hvk.out tv a4_1 w
      have K3 := Lib.hid fun (w : World) => badC a5 w
      have K4 := Lib.hid fun (w : World) => refBadC a5 w
      obtain ⟨fl', hfl⟩ : ∃ x, flagsL 3000 4200 300 600 (volts v f 4) tv a4_1 = x := ⟨_, rfl⟩
      rw [hfl] at K1 K2
      clear hfl
      obtain ⟨bb, hbb⟩ : ∃ x, badB a5 = x := ⟨_, rfl⟩
      rw [hbb] at K3 K4
      clear hbb
      have q1 : (fl' == fl') = true := by simp
      have q2 : (bb == bb) = true := by simp
      have hB : W4.heap.size ≤ W4.heap.size := Nat.le_refl _
      refine wp_region_reach W4.heap.size (by kernel_rfl) (by kernel_rfl) ?_
      have HG := Lib.hid (fun (w' : World) (hw : ∃ d, w' = reach W4.heap.size W4 d) => (show w'.heap[w2.heap.size]? = some (.cells (cfgA c (.slice (some ⟨O, 0, none⟩) 4 4) (.slice fa fl fc)) 34 (0, 0)) by obtain ⟨d, rfl⟩ := hw; exact ((reach_below _ _ d).block _ hC).trans G1.out))
      have HI := Lib.hid (fun (w' : World) (hw : ∃ d, w' = reach W4.heap.size W4 d) => (show w'.heap[w.heap.size]? = some (.cells (cellsA v f) 51 (0, 0)) by obtain ⟨d, rfl⟩ := hw; exact ((reach_below _ _ d).block _ n0).trans G2.out))
      have HU := Lib.hid (fun (w' : World) (hw : ∃ d, w' = reach W4.heap.size W4 d) => (show w'.heap[w.heap.size + 1]? = some (.cells #[.int .i64 tv, .bool a4_1] 50 (0, 0)) by obtain ⟨d, rfl⟩ := hw; exact ((reach_below _ _ d).block _ n1).trans G3.out))
      repeat (first | (go_big_quiet_want; refine quiet_load_row 50 _ rfl (w.heap.size + 1) rfl 50 _ (0, 0) _ HU.out Try.underlying50 rfl (by kernel_rfl) ?_; go_big_quiet_on; simp only [Act.put, List.setIfInBounds_toArray, List.set_cons_succ, List.set_cons_zero]) | (go_big_quiet_want; refine quiet_load_row 51 _ rfl (w.heap.size) rfl 51 _ (0, 0) _ HI.out Try.underlying51 rfl (by kernel_rfl) ?_; go_big_quiet_on; simp only [Act.put, List.setIfInBounds_toArray, List.set_cons_succ, List.set_cons_zero]) | (go_big_quiet_want; refine quiet_load_row 34 _ rfl w2.heap.size rfl 34 _ (0, 0) _ HG.out Try.underlying34 rfl (by kernel_rfl) ?_; go_big_quiet_on; simp only [Act.put, List.setIfInBounds_toArray, List.set_cons_succ, List.set_cons_zero]) | go_big_quiet_step ((first | (go_at_call 24; with_reducible exact reach_call hB (K1.out _)) | (go_at_call 26; with_reducible exact reach_call hB (K2.out _)) | (go_at_call 25; with_reducible exact reach_call0 (K3.out _)) | (go_at_call 27; with_reducible exact reach_call0 (K4.out _)))))
      all_goals (refine wpQuiet_nil ?_)
      all_goals (rintro w' ⟨d, rfl⟩)
      all_goals go_wp2
      all_goals go_ret
      exact ⟨rfl, G4.out.trans ((reach_below _ _ d).mono G4.out.size)⟩
end Go.Proofs.Ytomjhoaffbjkgaa
