/- A sample that was put is read as it was; outside its range it is none. Conditions: the seven errors lie apart. -/
import Derived.Test.YtiiomiekjlggfaaDoorSenB
import Derived.Deep.RegionWith
namespace Go.Proofs.YtiiomiekjlggfaaDoor
open Go.RowKit
set_option linter.unusedVariables false
set_option maxRecDepth 20000
set_option maxHeartbeats 4000000 in
theorem senPutBad {E : Nat → Addr} (ch s v : Int) (hw : withinB ch v = false) (w : World) (he : Ers E w) :
    Calls Tryd.prog 35 #[.int .i64 ch, .int .u8 s, .int .i64 v] w fun e w' => e = .returned (.tuple #[.agg #[.int .u8 0, .int .u8 0, .slice none 0 0], .iface 102 (.pointer (some (E 0)))]) ∧ Below w.heap.size w w' := by
  have K := Lib.hid fun (w : World) => withinC ch v w
  rw [hw] at K
  have HE := Lib.hid he
  clear hw he
  go_enter Tryd.func35, Tryd.ntmps35
  go_wp2_with fail
  have B0 := Lib.hid (Bx.new w #[.int .u8 0, .int .u8 0, .slice none 0 0] 24)
  generalize World.alloc w _ = W at *
  refine (K.out _).mono ?_
  rintro e w1 ⟨rfl, hb⟩
  have B1 := Lib.hid (B0.out.below hb)
  clear hb B0
  have x0 : w1.cell? ⟨w.heap.size, 0, none⟩ = some (.int .u8 0) := B1.out.cell 0 rfl
  have x1 : w1.cell? ⟨w.heap.size, 1, none⟩ = some (.int .u8 0) := B1.out.cell 1 rfl
  have x2 : w1.cell? ⟨w.heap.size, 2, none⟩ = some (.slice none 0 0) := B1.out.cell 2 rfl
  have xf := B1.out.froz
  have q0 := (HE.out.below B1.out.lo).g0
  unfold errV at q0
  go_wp2_with fail
  have hz : (0 : Nat) ≠ w.heap.size := by have h := block_lt_of_cell HE.out.g0; change 0 < _ at h; omega
  go_region_with (fail)
  all_goals
    go_wp2_with fail
    have B6 := Lib.hid (((B1.out.set 0 (.int .u8 0)).set 1 (.int .u8 0)).set 2 (.slice none 0 0))
    have B7 := Lib.hid (show Bx w (World.setCell (World.setCell (World.setCell w1 ⟨w.heap.size, 0, none⟩ (.int .u8 0)) ⟨w.heap.size, 1, none⟩ (.int .u8 0)) ⟨w.heap.size, 2, none⟩ (.slice none 0 0)).drew _ 24 from ⟨B6.out.row, B6.out.lo.drew⟩)
    clear x0 x1 x2 xf q0 B6
    generalize World.drew _ = W3 at *
    have q0 : W3.cell? ⟨w.heap.size, 0, none⟩ = some (.int .u8 0) := B7.out.cell 0 rfl
    have q1 : W3.cell? ⟨w.heap.size, 1, none⟩ = some (.int .u8 0) := B7.out.cell 1 rfl
    have q2 : W3.cell? ⟨w.heap.size, 2, none⟩ = some (.slice none 0 0) := B7.out.cell 2 rfl
    refine bodyPost_ret (v := .tuple #[.agg #[.int .u8 0, .int .u8 0, .slice none 0 0], .iface 102 (.pointer (some (E 0)))]) (by simp [results, Tryd.results35, go_sem, q0, q1, q2]) rfl ⟨rfl, B7.out.lo⟩
theorem tmodb (a : Int) (b : Int) (hb : 0 < b) : -b < a.tmod b ∧ a.tmod b < b := by
  have h1 := Int.tmod_lt_of_pos a hb
  have h2 := Int.tmod_lt_of_pos (-a) hb
  rw [Int.neg_tmod] at h2
  omega
set_option maxHeartbeats 8000000 in
theorem walkSensorBack (a0 : Int) (a1 : Int) (a2 : Int) (w : World) (w0 : (Lit.int .i64 a0).wf = true) (w1 : (Lit.int .u8 a1).wf = true) (w2 : (Lit.int .i64 a2).wf = true) (hE : ∃ E, Ers E w) :
    Calls Tryd.prog 11 #[.int .i64 a0, .int .u8 a1, .int .i64 a2] w fun e w' => e = .returned (.bool true) ∧ Below w.heap.size w w' := by
  obtain ⟨E, hE⟩ := hE
  obtain ⟨b0, b0'⟩ := bounds_i64 w0
  have HE := Lib.hid hE
  clear w0 w1 w2 hE
  have t0 := tmodb a0 47 (by omega)
  have u0 : 0 ≤ a0.tmod 47 % 47 ∧ a0.tmod 47 % 47 < 47 := ⟨Int.emod_nonneg _ (by omega), Int.emod_lt_of_pos _ (by omega)⟩
  have u2 : 0 ≤ (a0.tmod 47 + 48 - 1) % 47 ∧ (a0.tmod 47 + 48 - 1) % 47 < 47 := ⟨Int.emod_nonneg _ (by omega), Int.emod_lt_of_pos _ (by omega)⟩
  have u1 : 0 ≤ (a0.tmod 47 + 47) % 47 ∧ (a0.tmod 47 + 47) % 47 < 47 := ⟨Int.emod_nonneg _ (by omega), Int.emod_lt_of_pos _ (by omega)⟩
  go_enter Tryd.func11, Tryd.ntmps11
  go_wp2_with fail
  refine (senFirst _).mono ?_
  rintro e wa ⟨rfl, hba⟩
  have HA := Lib.hid hba
  clear hba
  go_upto_region 5 with fail
  generalize (a0.tmod 47 + 48 - 1) % 47 = c at *
  obtain ⟨lo, hh, hR, r1, r2, r3, r4⟩ := range_of (c + 1) (by omega)
  have K := Lib.hid fun (w : World) => rangeC (c + 1) w
  rw [hR] at K
  have HR := Lib.hid hR
  have v1 : IntKind.i64.wrap (hh - lo) = hh - lo := IntWalk.i64_in _ (by omega)
  have v2 : IntKind.i64.wrap (hh - lo + 1) = hh - lo + 1 := IntWalk.i64_in _ (by omega)
  have v3 : (hh - lo + 1 == 0) = false := by rw [beq_eq_false_iff_ne]; omega
  have v4 : decide (hh < lo) = false := decide_eq_false (by omega)
  clear hR b0 b0' t0 u0 u1
  go_wp2_with fail
  refine (K.out _).mono ?_
  rintro e wb ⟨rfl, hb⟩
  have hb2 := hb.alloc hb.size (.cells #[.int .i64 lo, .int .i64 hh] 65)
  have BR := Lib.hid (Bx.new wb #[.int .i64 lo, .int .i64 hh] 65)
  have x0 : (wb.alloc (.cells #[.int .i64 lo, .int .i64 hh] 65)).cell? ⟨wb.heap.size, 0, none⟩ = some (.int .i64 lo) := BR.out.cell 0 rfl
  have x1 : (wb.alloc (.cells #[.int .i64 lo, .int .i64 hh] 65)).cell? ⟨wb.heap.size, 1, none⟩ = some (.int .i64 hh) := BR.out.cell 1 rfl
  have BB := Lib.hid (HA.out.trans (hb2.mono HA.out.size))
  clear hb hb2
  go_wp2_with fail
  generalize World.alloc wb _ = W1 at *
  generalize hM : hh - lo + 1 = M at *
  have t1 := tmodb a2 M (by omega)
  have z1 : IntKind.i64.wrap (a2.tmod M) = a2.tmod M := IntWalk.i64_in _ (by omega)
  have z2 : IntKind.i64.wrap (a2.tmod M + M) = a2.tmod M + M := IntWalk.i64_in _ (by omega)
  obtain ⟨V, hV⟩ : ∃ V, (a2.tmod M + M).tmod M = V := ⟨_, rfl⟩
  have hV0 : 0 ≤ V ∧ V < M := by
    rw [← hV, Int.tmod_eq_emod_of_nonneg (by omega)]
    exact ⟨Int.emod_nonneg _ (by omega), Int.emod_lt_of_pos _ (by omega)⟩
  have z3 : IntKind.i64.wrap V = V := IntWalk.i64_in _ (by omega)
  have z4 : IntKind.i64.wrap (lo + V) = lo + V := IntWalk.i64_in _ (by omega)
  have s0 := fun d => below_cell (reach_below W1.heap.size W1 d) x0
  refine wp_region_reach W1.heap.size (by kernel_rfl) (by kernel_rfl) ?_
  repeat (go_big_quiet_step (fail))
  refine wpQuiet_nil ?_
  rintro w' ⟨d, rfl⟩
  have hw9 : withinB (c + 1) (lo + V) = true := by
    unfold withinB
    rw [HR.out]
    simp
    omega
  have hw8 : withinB (c + 1) (hh + 1) = false := by
    unfold withinB
    rw [HR.out]
    simp
    omega
  have hw7 : withinB (c + 1) (lo - 1) = false := by
    unfold withinB
    rw [HR.out]
    simp
    omega
  have HW9 := Lib.hid hw9
  have HW8 := Lib.hid hw8
  have HW7 := Lib.hid hw7
  have B2 := Lib.hid (BR.out.reach d)
  have H2 := Lib.hid (BB.out.trans ((reach_below W1.heap.size W1 d).mono BB.out.size))
  clear BR BB s0 x0 x1 hw9 hw8 hw7 z1 z2 z3 hV
  generalize reach W1.heap.size W1 d = W2 at *
  have v5 : IntKind.i64.wrap (hh + 1) = hh + 1 := IntWalk.i64_in _ (by omega)
  have v6 : IntKind.i64.wrap (lo - 1) = lo - 1 := IntWalk.i64_in _ (by omega)
  go_wp2_with fail
  refine (senPut (E := E) (c + 1) a1 (lo + V) HW9.out W2).mono ?_
  rintro e w3 ⟨B, rfl, hrow, hB, hb⟩
  have B3 := Lib.hid (B2.out.below hb)
  have H3 := Lib.hid (H2.out.trans (hb.mono H2.out.size))
  have RB := Lib.hid hrow
  clear hb hrow B2 H2
  go_wp2_with fail
  have F3 := Lib.hid (Bx.new w3 #[.int .u8 (c + 1), .int .u8 a1, .slice (some ⟨B, 0, none⟩) 4 4] 24)
  have hal := (Below.refl w3.heap.size w3).alloc (Nat.le_refl _) (.cells #[.int .u8 (c + 1), .int .u8 a1, .slice (some ⟨B, 0, none⟩) 4 4] 24)
  have B4 := Lib.hid (B3.out.below hal)
  have H4 := Lib.hid (H3.out.trans (hal.mono H3.out.size))
  have RC := Lib.hid ((hal.block _ (Array.getElem?_eq_some_iff.1 RB.out).1).trans RB.out)
  clear hal B3 H3 RB
  generalize World.alloc w3 _ = W4 at *
  have hbk := by_back (lo + V) (by omega) (by omega)
  have p0 : 0 ≤ by0 (lo + V) ∧ by0 (lo + V) < 256 := by unfold by0; omega
  have p1 : 0 ≤ by1 (lo + V) ∧ by1 (lo + V) < 256 := by unfold by1; omega
  have p2 : 0 ≤ by2 (lo + V) ∧ by2 (lo + V) < 256 := by unfold by2; omega
  have p3 : 0 ≤ by3 (lo + V) ∧ by3 (lo + V) < 256 := by unfold by3; omega
  refine (senVal (E := E) (c + 1) a1 (by0 (lo + V)) (by1 (lo + V)) (by2 (lo + V)) (by3 (lo + V)) B 4 true (by omega) p0 p1 p2 p3 (by rw [HR.out]) (by rw [hbk]; exact HW9.out) W4 (HE.out.below H4.out) (cell_of_row _ _ 0 _ _ _ RC.out) (cell_of_row _ _ 1 _ _ _ RC.out) (cell_of_row _ _ 2 _ _ _ RC.out) (cell_of_row _ _ 3 _ _ _ RC.out)).mono ?_
  rw [hbk]
  rintro e w5 ⟨rfl, hb⟩
  clear hbk p0 p1 p2 p3 RC
  have B5 := Lib.hid (B4.out.below hb)
  have H5 := Lib.hid (H4.out.trans (hb.mono H4.out.size))
  have F5 := Lib.hid (F3.out.below hb)
  clear hb B4 H4 F3
  dsimp only [cond]
  have x0 : w5.cell? ⟨wb.heap.size, 0, none⟩ = some (.int .i64 lo) := B5.out.cell 0 rfl
  have x1 : w5.cell? ⟨wb.heap.size, 1, none⟩ = some (.int .i64 hh) := B5.out.cell 1 rfl
  go_wp2_with fail
  refine (senPutBad (E := E) (c + 1) a1 (hh + 1) HW8.out w5 (HE.out.below H5.out)).mono ?_
  rintro e w6 ⟨rfl, hb⟩
  have hal := hb.alloc hb.size (.cells #[.int .u8 0, .int .u8 0, .slice none 0 0] 24)
  have B6 := Lib.hid (B5.out.below hal)
  have H6 := Lib.hid (H5.out.trans (hal.mono H5.out.size))
  have F6 := Lib.hid (F5.out.below hal)
  have x0 : (w6.alloc (.cells #[.int .u8 0, .int .u8 0, .slice none 0 0] 24)).cell? ⟨wb.heap.size, 0, none⟩ = some (.int .i64 lo) := B6.out.cell 0 rfl
  clear hb hal B5 H5 F5 x1
  go_wp2_with fail
  generalize World.alloc w6 _ = W6 at *
  refine (senPutBad (E := E) (c + 1) a1 (lo - 1) HW7.out W6 (HE.out.below H6.out)).mono ?_
  rintro e w7 ⟨rfl, hb⟩
  have hal := hb.alloc hb.size (.cells #[.int .u8 0, .int .u8 0, .slice none 0 0] 24)
  have H7 := Lib.hid (H6.out.trans (hal.mono H6.out.size))
  have F7 := Lib.hid (F6.out.below hal)
  have x1 : (w7.alloc (.cells #[.int .u8 0, .int .u8 0, .slice none 0 0] 24)).cell? ⟨w3.heap.size, 1, none⟩ = some (.int .u8 a1) := F7.out.cell 1 rfl
  have x2 : (w7.alloc (.cells #[.int .u8 0, .int .u8 0, .slice none 0 0] 24)).cell? ⟨w3.heap.size, 2, none⟩ = some (.slice (some ⟨B, 0, none⟩) 4 4) := F7.out.cell 2 rfl
  clear hb hal B6 H6 F6 x0
  have y1 : (c + 1 == c + 1) = true := by simp
  have y2 : (lo + V == lo + V) = true := by simp
  have y3 : (a1 == a1) = true := by simp
  go_wp2_with fail
  generalize World.alloc w7 _ = W7 at *
  refine (isC (HE.out.below H7.out) (.bare 0 (by omega))).mono ?_
  rintro e w8 ⟨rfl, hb⟩
  have H8 := Lib.hid (H7.out.trans (hb.mono H7.out.size))
  clear hb
  go_wp2_with fail
  refine (isC (HE.out.below H8.out) (.bare 0 (by omega))).mono ?_
  rintro e w9 ⟨rfl, hb⟩
  have H9 := Lib.hid (H8.out.trans (hb.mono H8.out.size))
  clear hb
  go_wp2_with fail
  go_returns
  exact ⟨rfl, H9.out⟩
end Go.Proofs.YtiiomiekjlggfaaDoor
