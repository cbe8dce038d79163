/- Where the document's own line through a right table's points stands. Conditions: the table is right. -/
import Derived.Test.YtppomdpppidbaaaDoorTabD
namespace Go.Proofs.YtppomdpppidbaaaDoor
open Go.RowKit
set_option linter.unusedVariables false
set_option maxHeartbeats 4000000 in
set_option maxRecDepth 20000 in
theorem refAtC (a : Addr) (n cap : Nat) (x y : Nat → Int) (v : Int) (T : TabOk n x y) (w : World) (h : Pts w a n x y) :
    Calls Tryd.prog 17 #[.slice (some a) n cap, .int .i64 v] w fun e w' => e = .returned (.agg #[.int .i64 (atLo n x y v), .int .i64 (atHi n x y v)]) ∧ Below w.heap.size w w' := by
  have T1 := Lib.hid T
  have H := Lib.hid h
  have n2 := T.n2
  have n3 := T.n3
  obtain ⟨m, rfl⟩ : ∃ m, n = m + 1 := ⟨n - 1, by omega⟩
  have ff := fault_f0 0 false 0
  clear h T
  go_enter Tryd.func17, Tryd.ntmps17
  go_wp2_with fail
  have B0 := Lib.hid (Bx.new w #[.int .i64 0, .int .i64 0] 27)
  generalize World.alloc w _ = W0 at *
  refine (refCheckC a _ cap x y T1.out _ (H.out.below B0.out.lo)).mono ?_
  rintro e w1 ⟨rfl, hb1⟩
  have B1 := Lib.hid (B0.out.below hb1)
  clear hb1 B0
  have P1 := Lib.hid (H.out.below B1.out.lo)
  obtain ⟨c0, c1⟩ := P1.out 0 (by omega)
  obtain ⟨l0, l1⟩ := P1.out m (by omega)
  rw [Nat.zero_mul, add_0] at c0 c1
  have i12 : IntKind.i64.wrap ((m : Int) + 1 - 1) = (m : Int) := by rw [show (m : Int) + 1 - 1 = m by omega]; exact IntWalk.i64_in _ (by omega)
  have r0 := fun d => below_cell (reach_below w1.heap.size w1 d) c0
  have r1 := fun d => below_cell (reach_below w1.heap.size w1 d) l0
  have K := Lib.hid fun (w : World) => refClamp v (x 0) (x m) w
  go_upto_region 3 with fail
  refine wp_region_reach w1.heap.size (by kernel_rfl) (by kernel_rfl) ?_
  repeat (go_big_quiet_step ((go_at_call 30; with_reducible exact reach_call0 (K.out _))))
  refine wpQuiet_nil ?_
  rintro w' ⟨d, rfl⟩
  have B2 := Lib.hid (B1.out.reach d)
  clear r0 r1 c0 c1 l0 l1 P1 B1 K
  generalize reach w1.heap.size w1 d = w2 at *
  obtain ⟨u, hu⟩ : ∃ u, clampI v (x 0) (x m) = u := ⟨_, rfl⟩
  rw [hu]
  have HU := Lib.hid hu
  clear hu
  go_wp2_with fail
  go_loopw [5] (fun s wr => ∃ i : Nat, i + 1 ≤ m ∧ s = .int .i64 i ∧ (∀ k, 1 ≤ k → k ≤ i → x k < u) ∧ wr = w2) (fun s _ => m - (intOf s).toNat)
  case atStart => exact ⟨0, by omega, rfl, fun k h1 h2 => by omega, rfl⟩
  case round =>
    obtain ⟨i, hi, rfl, hk, rfl⟩ := hrel
    have HK := Lib.hid hk
    clear hk
    have P2 := Lib.hid (H.out.below B2.out.lo)
    obtain ⟨c0, c1⟩ := P2.out i (by omega)
    obtain ⟨d0, d1⟩ := P2.out (i + 1) (by omega)
    have i1 : (i : Int) + 1 < (m : Int) + 1 := by omega
    have i2 : (i : Int) < (m : Int) + 1 := by omega
    have i3 : IntKind.i64.wrap ((i : Int) + 1) = (i : Int) + 1 := IntWalk.i64_in _ (by omega)
    have i4 : IntKind.i64.wrap ((i : Int) + 2) = (i : Int) + 2 := IntWalk.i64_in _ (by omega)
    by_cases hl : i + 1 < m ∧ x (i + 1) < u
    · obtain ⟨h1, h2⟩ := hl
      have g1 : decide ((i : Int) + 2 < (m : Int) + 1) = true := decide_eq_true (by omega)
      have g2 : decide (x (i + 1) < u) = true := decide_eq_true h2
      go_wp2_with fail
      go_roundw
      case rel => exact ⟨i + 1, by omega, by go_num, fun k h3 h4 => by
        by_cases h : k = i + 1
        · rw [h]; exact h2
        · exact HK.out k h3 (by omega), trivial⟩
      case measure => simp [intOf]; omega
    · have hx : i + 1 = m ∨ u ≤ x (i + 1) := by omega
      have WK := at_walk T1.out v u i HU.out.symm hi HK.out hx
      have cl := HU.out
      have x0m := (T1.out.mono (Nat.zero_le m) (by omega)).1
      have mx := T1.out.mx i (by omega)
      have my := T1.out.my i (by omega)
      have hu0 : x 0 ≤ u ∧ u ≤ x m := by unfold clampI at cl; omega
      have hu1 : x i ≤ u := by
        by_cases h : i = 0
        · subst h; exact hu0.1
        · have := HK.out i (by omega) (Nat.le_refl _); omega
      have hu2 : u ≤ x (i + 1) := by
        rcases hx with h | h
        · rw [h]; exact hu0.2
        · exact h
      clear HK cl hu0 x0m
      rcases Nat.lt_or_ge (i + 1) m with h1 | h1
      · have h2 : ¬ x (i + 1) < u := by omega
        have g1 : decide ((i : Int) + 2 < (m : Int) + 1) = true := decide_eq_true (by omega)
        have g2 : decide (x (i + 1) < u) = false := decide_eq_false h2
        have bx0 := T1.out.bx i (by omega)
        have bx1 := T1.out.bx (i + 1) (by omega)
        have by0 := T1.out.by' i (by omega)
        have by1 := T1.out.by' (i + 1) (by omega)
        have r0 := fun d => below_cell (reach_below wr.heap.size wr d) c0
        have r2 := fun d => below_cell (reach_below wr.heap.size wr d) d0
        have w3 : IntKind.i64.wrap (x (i + 1) - x i) = x (i + 1) - x i := IntWalk.i64_in _ (by omega)
        go_upto_region 7 with fail
        refine wp_region_reach wr.heap.size (by kernel_rfl) (by kernel_rfl) ?_
        repeat (go_big_quiet_step (fail))
        refine wpQuiet_nil ?_
        rintro w' ⟨d2, rfl⟩
        have B3 := Lib.hid (B2.out.reach d2)
        have P3 := Lib.hid (P2.out.below (reach_below wr.heap.size wr d2))
        clear r0 r2 c0 c1 d0 d1
        generalize reach wr.heap.size wr d2 = w5 at *
        obtain ⟨c0, c1⟩ := P3.out i (by omega)
        obtain ⟨d0, d1⟩ := P3.out (i + 1) (by omega)
        have r0 := fun d => below_cell (reach_below w5.heap.size w5 d) c0
        have r1 := fun d => below_cell (reach_below w5.heap.size w5 d) c1
        have r2 := fun d => below_cell (reach_below w5.heap.size w5 d) d1
        have v1 : IntKind.i64.wrap (y (i + 1) - y i) = y (i + 1) - y i := IntWalk.i64_in _ (by omega)
        have v2 : IntKind.i64.wrap (u - x i) = u - x i := IntWalk.i64_in _ (by omega)
        have PF := part_facts (u - x i) (y (i + 1) - y i) (x (i + 1) - x i) (by omega) (by omega) (by omega) (by omega)
        rw [Int.mul_comm (u - x i)] at PF
        have hR : (x (i + 1) - x i) * (y (i + 1) - y i) ≤ 2147483648 * 2147483648 := Int.mul_le_mul (by omega) (by omega) (by omega) (by omega)
        have v3 : IntKind.i64.wrap ((y (i + 1) - y i) * (u - x i)) = (y (i + 1) - y i) * (u - x i) := IntWalk.i64_in _ (by omega)
        have IP : I64 ((y (i + 1) - y i) * (u - x i)) := by unfold I64; omega
        obtain ⟨PP, hPP⟩ : ∃ p, (y (i + 1) - y i) * (u - x i) = p := ⟨_, rfl⟩
        go_upto_region 8 with fail
        refine wp_region_reach w5.heap.size (by kernel_rfl) (by kernel_rfl) ?_
        repeat (go_big_quiet_step (fail))
        refine wpQuiet_nil ?_
        rintro w' ⟨d3, rfl⟩
        go_upto_region 9 with fail
        have B4 := Lib.hid (B3.out.reach d3)
        have P4 := Lib.hid (P3.out.below (reach_below w5.heap.size w5 d3))
        clear r0 r1 r2 c0 c1 d0 d1 B3 P3 v1 v2 v3 hR
        generalize reach w5.heap.size w5 d3 = w6 at *
        obtain ⟨c0, c1⟩ := P4.out i (by omega)
        rw [hPP] at PF IP WK
        obtain ⟨el, eh⟩ := WK
        have EL := Lib.hid el
        have EH := Lib.hid eh
        clear el eh
        try rw [hPP]
        have KD := Lib.hid fun (w : World) => refDown PP (x (i + 1) - x i) IP w
        have KU := Lib.hid fun (w : World) => refUp PP (x (i + 1) - x i) IP w
        have v5 : IntKind.i64.wrap (y i + downI PP (x (i + 1) - x i)) = y i + downI PP (x (i + 1) - x i) := IntWalk.i64_in _ (by omega)
        have v6 : IntKind.i64.wrap (y i + upI PP (x (i + 1) - x i)) = y i + upI PP (x (i + 1) - x i) := IntWalk.i64_in _ (by omega)
        have b5 : y i + downI PP (x (i + 1) - x i) ≤ 1073741824 := by omega
        have b6 : y i + upI PP (x (i + 1) - x i) ≤ 1073741824 := by omega
        have b7 : -1073741824 ≤ y i + downI PP (x (i + 1) - x i) := by omega
        have b8 : -1073741824 ≤ y i + upI PP (x (i + 1) - x i) := by omega
        clear PF IP hPP w3
        generalize downI PP (x (i + 1) - x i) = DD at *
        generalize upI PP (x (i + 1) - x i) = UU at *
        have r1 := fun d => below_cell (reach_below w6.heap.size w6 d) c1
        clear c0 c1
        refine wp_region_tailR w6.heap.size 19 (by kernel_rfl) (by kernel_rfl) ?_
        simp only [List.take_succ_cons, List.take_zero, List.drop_succ_cons, List.drop_zero]
        repeat (go_big_quiet_step ((first | (go_at_call 31; with_reducible exact reach_call0 (KD.out _)) | (go_at_call 32; with_reducible exact reach_call0 (KU.out _)))))
        refine wpQuiet_nil ?_
        rintro w' ⟨d4, rfl⟩
        have B5 := Lib.hid (B4.out.reach d4)
        clear r1 B4
        generalize reach w6.heap.size w6 d4 = w7 at *
        have x0 := B5.out.cell 0 rfl
        have x1 := B5.out.cell 1 rfl
        have xf := B5.out.froz
        go_wp2_with fail
        have B6 := Lib.hid ((B5.out.set 0 (.int .i64 (y i + DD))).set 1 (.int .i64 (y i + UU)))
        clear x0 x1 xf
        generalize World.setCell _ _ _ = W3 at *
        have q0 : W3.cell? ⟨w.heap.size, 0, none⟩ = some (.int .i64 (y i + DD)) := B6.out.cell 0 rfl
        have q1 : W3.cell? ⟨w.heap.size, 1, none⟩ = some (.int .i64 (y i + UU)) := B6.out.cell 1 rfl
        refine bodyPost_ret (v := .agg #[.int .i64 (y i + DD), .int .i64 (y i + UU)]) (by simp [results, Tryd.results17, go_sem, q0, q1]) rfl ⟨by rw [← EL.out, ← EH.out], B6.out.lo⟩
      · have g1 : decide ((i : Int) + 2 < (m : Int) + 1) = false := decide_eq_false (by omega)
        have bx0 := T1.out.bx i (by omega)
        have bx1 := T1.out.bx (i + 1) (by omega)
        have by0 := T1.out.by' i (by omega)
        have by1 := T1.out.by' (i + 1) (by omega)
        have r0 := fun d => below_cell (reach_below wr.heap.size wr d) c0
        have r2 := fun d => below_cell (reach_below wr.heap.size wr d) d0
        have w3 : IntKind.i64.wrap (x (i + 1) - x i) = x (i + 1) - x i := IntWalk.i64_in _ (by omega)
        go_upto_region 7 with fail
        refine wp_region_reach wr.heap.size (by kernel_rfl) (by kernel_rfl) ?_
        repeat (go_big_quiet_step (fail))
        refine wpQuiet_nil ?_
        rintro w' ⟨d2, rfl⟩
        have B3 := Lib.hid (B2.out.reach d2)
        have P3 := Lib.hid (P2.out.below (reach_below wr.heap.size wr d2))
        clear r0 r2 c0 c1 d0 d1
        generalize reach wr.heap.size wr d2 = w5 at *
        obtain ⟨c0, c1⟩ := P3.out i (by omega)
        obtain ⟨d0, d1⟩ := P3.out (i + 1) (by omega)
        have r0 := fun d => below_cell (reach_below w5.heap.size w5 d) c0
        have r1 := fun d => below_cell (reach_below w5.heap.size w5 d) c1
        have r2 := fun d => below_cell (reach_below w5.heap.size w5 d) d1
        have v1 : IntKind.i64.wrap (y (i + 1) - y i) = y (i + 1) - y i := IntWalk.i64_in _ (by omega)
        have v2 : IntKind.i64.wrap (u - x i) = u - x i := IntWalk.i64_in _ (by omega)
        have PF := part_facts (u - x i) (y (i + 1) - y i) (x (i + 1) - x i) (by omega) (by omega) (by omega) (by omega)
        rw [Int.mul_comm (u - x i)] at PF
        have hR : (x (i + 1) - x i) * (y (i + 1) - y i) ≤ 2147483648 * 2147483648 := Int.mul_le_mul (by omega) (by omega) (by omega) (by omega)
        have v3 : IntKind.i64.wrap ((y (i + 1) - y i) * (u - x i)) = (y (i + 1) - y i) * (u - x i) := IntWalk.i64_in _ (by omega)
        have IP : I64 ((y (i + 1) - y i) * (u - x i)) := by unfold I64; omega
        obtain ⟨PP, hPP⟩ : ∃ p, (y (i + 1) - y i) * (u - x i) = p := ⟨_, rfl⟩
        go_upto_region 8 with fail
        refine wp_region_reach w5.heap.size (by kernel_rfl) (by kernel_rfl) ?_
        repeat (go_big_quiet_step (fail))
        refine wpQuiet_nil ?_
        rintro w' ⟨d3, rfl⟩
        go_upto_region 9 with fail
        have B4 := Lib.hid (B3.out.reach d3)
        have P4 := Lib.hid (P3.out.below (reach_below w5.heap.size w5 d3))
        clear r0 r1 r2 c0 c1 d0 d1 B3 P3 v1 v2 v3 hR
        generalize reach w5.heap.size w5 d3 = w6 at *
        obtain ⟨c0, c1⟩ := P4.out i (by omega)
        rw [hPP] at PF IP WK
        obtain ⟨el, eh⟩ := WK
        have EL := Lib.hid el
        have EH := Lib.hid eh
        clear el eh
        try rw [hPP]
        have KD := Lib.hid fun (w : World) => refDown PP (x (i + 1) - x i) IP w
        have KU := Lib.hid fun (w : World) => refUp PP (x (i + 1) - x i) IP w
        have v5 : IntKind.i64.wrap (y i + downI PP (x (i + 1) - x i)) = y i + downI PP (x (i + 1) - x i) := IntWalk.i64_in _ (by omega)
        have v6 : IntKind.i64.wrap (y i + upI PP (x (i + 1) - x i)) = y i + upI PP (x (i + 1) - x i) := IntWalk.i64_in _ (by omega)
        have b5 : y i + downI PP (x (i + 1) - x i) ≤ 1073741824 := by omega
        have b6 : y i + upI PP (x (i + 1) - x i) ≤ 1073741824 := by omega
        have b7 : -1073741824 ≤ y i + downI PP (x (i + 1) - x i) := by omega
        have b8 : -1073741824 ≤ y i + upI PP (x (i + 1) - x i) := by omega
        clear PF IP hPP w3
        generalize downI PP (x (i + 1) - x i) = DD at *
        generalize upI PP (x (i + 1) - x i) = UU at *
        have r1 := fun d => below_cell (reach_below w6.heap.size w6 d) c1
        clear c0 c1
        refine wp_region_tailR w6.heap.size 19 (by kernel_rfl) (by kernel_rfl) ?_
        simp only [List.take_succ_cons, List.take_zero, List.drop_succ_cons, List.drop_zero]
        repeat (go_big_quiet_step ((first | (go_at_call 31; with_reducible exact reach_call0 (KD.out _)) | (go_at_call 32; with_reducible exact reach_call0 (KU.out _)))))
        refine wpQuiet_nil ?_
        rintro w' ⟨d4, rfl⟩
        have B5 := Lib.hid (B4.out.reach d4)
        clear r1 B4
        generalize reach w6.heap.size w6 d4 = w7 at *
        have x0 := B5.out.cell 0 rfl
        have x1 := B5.out.cell 1 rfl
        have xf := B5.out.froz
        go_wp2_with fail
        have B6 := Lib.hid ((B5.out.set 0 (.int .i64 (y i + DD))).set 1 (.int .i64 (y i + UU)))
        clear x0 x1 xf
        generalize World.setCell _ _ _ = W3 at *
        have q0 : W3.cell? ⟨w.heap.size, 0, none⟩ = some (.int .i64 (y i + DD)) := B6.out.cell 0 rfl
        have q1 : W3.cell? ⟨w.heap.size, 1, none⟩ = some (.int .i64 (y i + UU)) := B6.out.cell 1 rfl
        refine bodyPost_ret (v := .agg #[.int .i64 (y i + DD), .int .i64 (y i + UU)]) (by simp [results, Tryd.results17, go_sem, q0, q1]) rfl ⟨by rw [← EL.out, ← EH.out], B6.out.lo⟩
end Go.Proofs.YtppomdpppidbaaaDoor
