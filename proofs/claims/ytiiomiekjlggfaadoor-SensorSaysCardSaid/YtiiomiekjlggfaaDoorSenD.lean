/- The document's ranges; a frame as a sample, of any four bytes. Conditions: the seven errors lie apart. -/
import Derived.Test.YtiiomiekjlggfaaDoorSenC
import Derived.Test.YtiiomiekjlggfaaDoorActK
namespace Go.Proofs.YtiiomiekjlggfaaDoor
open Go Go.RowKit
set_option linter.unusedVariables false
set_option maxRecDepth 20000
set_option maxHeartbeats 8000000 in
theorem rangeR (ch : Int) (w : World) :
    Calls Tryd.prog 34 #[.int .i64 ch] w fun e w' => e = .returned (.tuple #[.agg #[.int .i64 (rangeI ch).1, .int .i64 (rangeI ch).2.1], .bool (rangeI ch).2.2]) ∧ Below w.heap.size w w' := by
  rcases (show (ch < 1) ∨ (1 ≤ ch ∧ ch < 5) ∨ (5 ≤ ch ∧ ch < 9) ∨ (9 ≤ ch ∧ ch < 12) ∨ (12 ≤ ch ∧ ch < 15) ∨ (15 ≤ ch ∧ ch < 23) ∨ (23 ≤ ch ∧ ch < 25) ∨ (25 ≤ ch ∧ ch < 29) ∨ (29 ≤ ch ∧ ch < 30) ∨ (30 ≤ ch ∧ ch < 46) ∨ (46 ≤ ch ∧ ch < 48) ∨ (48 ≤ ch) by omega) with h | h | h | h | h | h | h | h | h | h | h | h
  · rw [show rangeI ch = (0, 0, false) by unfold rangeI; repeat (first | rw [if_pos (by omega)] | rw [if_neg (by omega)])]
    go_enter Tryd.func34, Tryd.ntmps34
    go_wp2
    all_goals
      refine bodyPost_ret (by simp [results, Tryd.results34, go_sem]) rfl ⟨rfl, ?_⟩
      go_grown
  · rw [show rangeI ch = (0, 60000, true) by unfold rangeI; repeat (first | rw [if_pos (by omega)] | rw [if_neg (by omega)])]
    go_enter Tryd.func34, Tryd.ntmps34
    go_wp2
    all_goals
      refine bodyPost_ret (by simp [results, Tryd.results34, go_sem]) rfl ⟨rfl, ?_⟩
      go_grown
  · rw [show rangeI ch = (-500000, 500000, true) by unfold rangeI; repeat (first | rw [if_pos (by omega)] | rw [if_neg (by omega)])]
    go_enter Tryd.func34, Tryd.ntmps34
    go_wp2
    all_goals
      refine bodyPost_ret (by simp [results, Tryd.results34, go_sem]) rfl ⟨rfl, ?_⟩
      go_grown
  · rw [show rangeI ch = (0, 60000, true) by unfold rangeI; repeat (first | rw [if_pos (by omega)] | rw [if_neg (by omega)])]
    go_enter Tryd.func34, Tryd.ntmps34
    go_wp2
    all_goals
      refine bodyPost_ret (by simp [results, Tryd.results34, go_sem]) rfl ⟨rfl, ?_⟩
      go_grown
  · rw [show rangeI ch = (0, 500000, true) by unfold rangeI; repeat (first | rw [if_pos (by omega)] | rw [if_neg (by omega)])]
    go_enter Tryd.func34, Tryd.ntmps34
    go_wp2
    all_goals
      refine bodyPost_ret (by simp [results, Tryd.results34, go_sem]) rfl ⟨rfl, ?_⟩
      go_grown
  · rw [show rangeI ch = (0, 6000, true) by unfold rangeI; repeat (first | rw [if_pos (by omega)] | rw [if_neg (by omega)])]
    go_enter Tryd.func34, Tryd.ntmps34
    go_wp2
    all_goals
      refine bodyPost_ret (by simp [results, Tryd.results34, go_sem]) rfl ⟨rfl, ?_⟩
      go_grown
  · rw [show rangeI ch = (-500, 1500, true) by unfold rangeI; repeat (first | rw [if_pos (by omega)] | rw [if_neg (by omega)])]
    go_enter Tryd.func34, Tryd.ntmps34
    go_wp2
    all_goals
      refine bodyPost_ret (by simp [results, Tryd.results34, go_sem]) rfl ⟨rfl, ?_⟩
      go_grown
  · rw [show rangeI ch = (-30000, 30000, true) by unfold rangeI; repeat (first | rw [if_pos (by omega)] | rw [if_neg (by omega)])]
    go_enter Tryd.func34, Tryd.ntmps34
    go_wp2
    all_goals
      refine bodyPost_ret (by simp [results, Tryd.results34, go_sem]) rfl ⟨rfl, ?_⟩
      go_grown
  · rw [show rangeI ch = (0, 127, true) by unfold rangeI; repeat (first | rw [if_pos (by omega)] | rw [if_neg (by omega)])]
    go_enter Tryd.func34, Tryd.ntmps34
    go_wp2
    all_goals
      refine bodyPost_ret (by simp [results, Tryd.results34, go_sem]) rfl ⟨rfl, ?_⟩
      go_grown
  · rw [show rangeI ch = (0, 1, true) by unfold rangeI; repeat (first | rw [if_pos (by omega)] | rw [if_neg (by omega)])]
    go_enter Tryd.func34, Tryd.ntmps34
    go_wp2
    all_goals
      refine bodyPost_ret (by simp [results, Tryd.results34, go_sem]) rfl ⟨rfl, ?_⟩
      go_grown
  · rw [show rangeI ch = (-500000, 500000, true) by unfold rangeI; repeat (first | rw [if_pos (by omega)] | rw [if_neg (by omega)])]
    go_enter Tryd.func34, Tryd.ntmps34
    go_wp2
    all_goals
      refine bodyPost_ret (by simp [results, Tryd.results34, go_sem]) rfl ⟨rfl, ?_⟩
      go_grown
  · rw [show rangeI ch = (0, 0, false) by unfold rangeI; repeat (first | rw [if_pos (by omega)] | rw [if_neg (by omega)])]
    go_enter Tryd.func34, Tryd.ntmps34
    go_wp2
    all_goals
      refine bodyPost_ret (by simp [results, Tryd.results34, go_sem]) rfl ⟨rfl, ?_⟩
      go_grown
set_option maxHeartbeats 4000000 in
theorem hasRef (a : Int) (b : Int) (x : Int) (w : World) :
    Calls Tryd.prog 47 #[.agg #[.int .i64 a, .int .i64 b], .int .i64 x] w fun e w' => e = .returned (.bool (decide (a ≤ x) && decide (x ≤ b))) ∧ Below w.heap.size w w' := by
  go_enter Tryd.func47, Tryd.ntmps47
  go_wp2
  all_goals
    go_returns
    refine ⟨?_, by go_grown⟩
    have ret_b : ∀ {a b : Bool}, a = b → Ending.returned (.bool a) = .returned (.bool b) := fun h => by rw [h]
    exact ret_b (by simp <;> omega)
set_option maxHeartbeats 4000000 in
theorem senValX {E : Nat → Addr} (id sq b0 b1 b2 b3 : Int) (y : Addr) (cap : Nat) (ok : Bool) (hi : 0 ≤ id ∧ id < 256) (h0 : 0 ≤ b0 ∧ b0 < 256) (h1 : 0 ≤ b1 ∧ b1 < 256) (h2 : 0 ≤ b2 ∧ b2 < 256) (h3 : 0 ≤ b3 ∧ b3 < 256) (hr : (rangeI id).2.2 = true) (hv : withinB id (sgn4 (val4 b0 b1 b2 b3)) = ok) (w : World) (he : Ers E w)
    (c0 : w.cell? y = some (.int .u8 b0)) (c1 : w.cell? ⟨y.block, y.off + 1, none⟩ = some (.int .u8 b1)) (c2 : w.cell? ⟨y.block, y.off + 2, none⟩ = some (.int .u8 b2)) (c3 : w.cell? ⟨y.block, y.off + 3, none⟩ = some (.int .u8 b3)) :
    Calls Tryd.prog 37 #[.agg #[.int .u8 id, .int .u8 sq, .slice (some y) 4 cap]] w fun e w' => e = .returned (cond ok (.tuple #[.int .i64 id, .int .i64 (sgn4 (val4 b0 b1 b2 b3)), .nilIface]) (.tuple #[.int .i64 0, .int .i64 0, .iface 102 (.pointer (some (E 0)))])) ∧ Below w.heap.size w w' := by
  have HE := Lib.hid he
  have K := Lib.hid fun (w : World) => rangeC id w
  have KW := Lib.hid fun (w : World) => withinC id (sgn4 (val4 b0 b1 b2 b3)) w
  rw [hv] at KW
  clear he hv
  generalize rangeI id = R at *
  obtain ⟨lo, hh, is⟩ := R
  dsimp only at hr
  subst hr
  have v0 : IntKind.i64.wrap id = id := IntWalk.i64_in _ (by omega)
  go_enter Tryd.func37, Tryd.ntmps37
  go_upto_region 1 with fail
  have B0 := Lib.hid (Bx.new w #[.int .u8 id, .int .u8 sq, .slice (some y) 4 cap] 24)
  generalize World.alloc w _ = W at *
  have x0 : W.cell? ⟨w.heap.size, 0, none⟩ = some (.int .u8 id) := B0.out.cell 0 rfl
  have d0 := below_cell B0.out.lo c0
  have d1 := below_cell B0.out.lo c1
  have d2 := below_cell B0.out.lo c2
  have d3 := below_cell B0.out.lo c3
  clear c0 c1 c2 c3
  go_wp2_with fail
  refine (K.out _).mono ?_
  rintro e w1 ⟨rfl, hb⟩
  have hb2 := hb.alloc hb.size (.cells #[.int .i64 lo, .int .i64 hh] 65)
  have B1 := Lib.hid (B0.out.below hb2)
  have c0 := below_cell hb2 d0
  have c1 := below_cell hb2 d1
  have c2 := below_cell hb2 d2
  have c3 := below_cell hb2 d3
  clear hb hb2 B0 x0 d0 d1 d2 d3
  have x2 : (w1.alloc (.cells #[.int .i64 lo, .int .i64 hh] 65)).cell? ⟨w.heap.size, 2, none⟩ = some (.slice (some y) 4 cap) := B1.out.cell 2 rfl
  go_wp2_with fail
  have q0 := (HE.out.below B1.out.lo)
  generalize World.alloc w1 _ = W1 at *
  have HQ := Lib.hid q0
  have D := Lib.hid (show ∀ k : Nat, k < 4 → W1.cell? (y.add k) = some (.int .u8 (by4 b0 b1 b2 b3 k)) by
    intro k hk
    match k, hk with
    | 0, _ => exact c0
    | 1, _ => exact c1
    | 2, _ => exact c2
    | 3, _ => exact c3)
  clear q0 c0 c1 c2 c3 x2 v0 HE
  go_loopw [8, 36] (fun n c wr => ∃ k : Nat, k ≤ 4 ∧ c = .int .i64 k ∧ n = .int .u32 (pre4 b0 b1 b2 b3 k) ∧ wr = W1) (fun _ c _ => 4 - (intOf c).toNat)
  case atStart => exact ⟨0, by omega, rfl, rfl, rfl⟩
  case round =>
    obtain ⟨k, hk, rfl, rfl, rfl⟩ := hrel
    by_cases h4 : k = 4
    · subst h4
      rw [show pre4 b0 b1 b2 b3 4 = val4 b0 b1 b2 b3 from rfl]
      have vb := val4_lt b0 b1 b2 b3 h0 h1 h2 h3
      generalize hm : val4 b0 b1 b2 b3 = m at *
      have HM := Lib.hid hm
      clear hm
      have e1 : IntKind.i32.wrap m = sgn4 m := by rw [IntKind.wrap_i32]; unfold sgn4; split <;> omega
      have e2 : IntKind.i64.wrap (sgn4 m) = sgn4 m := IntWalk.i64_in _ (by unfold sgn4; split <;> omega)
      clear hk
      go_wp2_with fail
      refine (KW.out _).mono ?_
      rintro e w3 ⟨rfl, hb⟩
      have B3 := Lib.hid (B1.out.below hb)
      have q3 := (HQ.out.below hb).g0
      unfold errV at q3
      clear hb B1 e1 e2 D
      cases ok
      · go_wp2_with fail
        have G0 := fun d => below_cell (reach_below w3.heap.size w3 d) q3
        refine wp_region_reach w3.heap.size (by kernel_rfl) (by kernel_rfl) ?_
        repeat (go_big_quiet_step (fail))
        refine wpQuiet_nil ?_
        rintro w' ⟨d9, rfl⟩
        go_wp2_with fail
        go_returns
        exact ⟨rfl, (B3.out.reach d9).lo⟩
      · go_wp2_with fail
        go_returns
        exact ⟨by rw [HM.out]; rfl, B3.out.lo⟩
    · have hk4 : k < 4 := by omega
      have hc := D.out k hk4
      obtain ⟨hp, hs⟩ := pre4_step b0 b1 b2 b3 h0 h1 h2 h3 k hk4
      have hp2 : pre4 b0 b1 b2 b3 k < 16777216 := hp.2.1
      have hp1 := hp.1
      have hq1 := hp.2.2.1
      have hq2 := hp.2.2.2
      have HS := Lib.hid hs
      clear hs hp
      generalize pre4 b0 b1 b2 b3 k = m at *
      generalize by4 b0 b1 b2 b3 k = x at *
      have e1 := u32_in x hq1 hq2
      have e2 : IntKind.u32.wrap (m * 256) = m * 256 := by rw [IntKind.wrap_u32]; omega
      have e3 := or_low m x hp1 hp2 hq1 hq2
      have i1 : decide ((k : Int) < 4) = true := decide_eq_true (by omega)
      go_wp2_with fail
      go_roundw
      case rel => exact ⟨k + 1, by omega, by go_num, by rw [HS.out], trivial⟩
      case measure => simp [intOf]; omega
end Go.Proofs.YtiiomiekjlggfaaDoor
