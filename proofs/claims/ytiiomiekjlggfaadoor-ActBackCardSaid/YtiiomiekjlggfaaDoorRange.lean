/- What sensor.Range returns. No condition. -/
import Derived.Test.YtiiomiekjlggfaaDoorOnly
import Derived.Test.YtiiomiekjlggfaaDoorBase
import Derived.Handy
import Derived.OpenShut
import Derived.Lib.Hide
import Derived.Deep.QuietTactic
import Derived.BigQuiet
namespace Go.Proofs.YtiiomiekjlggfaaDoor
open Go.RowKit
def rangeI (ch : Int) : Int × Int × Bool :=
  if ch < 1 then (0, 0, false) else if ch < 5 then (0, 60000, true) else if ch < 9 then (-500000, 500000, true) else if ch < 12 then (0, 60000, true) else if ch < 15 then (0, 500000, true)
  else if ch < 23 then (0, 6000, true) else if ch < 25 then (-500, 1500, true) else if ch < 29 then (-30000, 30000, true) else if ch < 30 then (0, 127, true) else if ch < 46 then (0, 1, true)
  else if ch < 48 then (-500000, 500000, true) else (0, 0, false)
set_option maxHeartbeats 4000000 in
theorem rangeC (ch : Int) (w : World) :
    Calls Tryd.prog 33 #[.int .i64 ch] w fun e w' => e = .returned (.tuple #[.agg #[.int .i64 (rangeI ch).1, .int .i64 (rangeI ch).2.1], .bool (rangeI ch).2.2]) ∧ Below w.heap.size w w' := by
  rcases (show (ch < 1) ∨ (1 ≤ ch ∧ ch < 5) ∨ (5 ≤ ch ∧ ch < 9) ∨ (9 ≤ ch ∧ ch < 12) ∨ (12 ≤ ch ∧ ch < 15) ∨ (15 ≤ ch ∧ ch < 23) ∨ (23 ≤ ch ∧ ch < 25) ∨ (25 ≤ ch ∧ ch < 29) ∨ (29 ≤ ch ∧ ch < 30) ∨ (30 ≤ ch ∧ ch < 46) ∨ (46 ≤ ch ∧ ch < 48) ∨ (48 ≤ ch) by omega) with h | h | h | h | h | h | h | h | h | h | h | h
  · rw [show rangeI ch = (0, 0, false) by unfold rangeI; repeat (first | rw [if_pos (by omega)] | rw [if_neg (by omega)])]
    go_enter Tryd.func33, Tryd.ntmps33
    go_wp2
    all_goals
      refine bodyPost_ret (by simp [results, Tryd.results33, go_sem]) rfl ⟨rfl, ?_⟩
      go_grown
  · rw [show rangeI ch = (0, 60000, true) by unfold rangeI; repeat (first | rw [if_pos (by omega)] | rw [if_neg (by omega)])]
    go_enter Tryd.func33, Tryd.ntmps33
    go_wp2
    all_goals
      refine bodyPost_ret (by simp [results, Tryd.results33, go_sem]) rfl ⟨rfl, ?_⟩
      go_grown
  · rw [show rangeI ch = (-500000, 500000, true) by unfold rangeI; repeat (first | rw [if_pos (by omega)] | rw [if_neg (by omega)])]
    go_enter Tryd.func33, Tryd.ntmps33
    go_wp2
    all_goals
      refine bodyPost_ret (by simp [results, Tryd.results33, go_sem]) rfl ⟨rfl, ?_⟩
      go_grown
  · rw [show rangeI ch = (0, 60000, true) by unfold rangeI; repeat (first | rw [if_pos (by omega)] | rw [if_neg (by omega)])]
    go_enter Tryd.func33, Tryd.ntmps33
    go_wp2
    all_goals
      refine bodyPost_ret (by simp [results, Tryd.results33, go_sem]) rfl ⟨rfl, ?_⟩
      go_grown
  · rw [show rangeI ch = (0, 500000, true) by unfold rangeI; repeat (first | rw [if_pos (by omega)] | rw [if_neg (by omega)])]
    go_enter Tryd.func33, Tryd.ntmps33
    go_wp2
    all_goals
      refine bodyPost_ret (by simp [results, Tryd.results33, go_sem]) rfl ⟨rfl, ?_⟩
      go_grown
  · rw [show rangeI ch = (0, 6000, true) by unfold rangeI; repeat (first | rw [if_pos (by omega)] | rw [if_neg (by omega)])]
    go_enter Tryd.func33, Tryd.ntmps33
    go_wp2
    all_goals
      refine bodyPost_ret (by simp [results, Tryd.results33, go_sem]) rfl ⟨rfl, ?_⟩
      go_grown
  · rw [show rangeI ch = (-500, 1500, true) by unfold rangeI; repeat (first | rw [if_pos (by omega)] | rw [if_neg (by omega)])]
    go_enter Tryd.func33, Tryd.ntmps33
    go_wp2
    all_goals
      refine bodyPost_ret (by simp [results, Tryd.results33, go_sem]) rfl ⟨rfl, ?_⟩
      go_grown
  · rw [show rangeI ch = (-30000, 30000, true) by unfold rangeI; repeat (first | rw [if_pos (by omega)] | rw [if_neg (by omega)])]
    go_enter Tryd.func33, Tryd.ntmps33
    go_wp2
    all_goals
      refine bodyPost_ret (by simp [results, Tryd.results33, go_sem]) rfl ⟨rfl, ?_⟩
      go_grown
  · rw [show rangeI ch = (0, 127, true) by unfold rangeI; repeat (first | rw [if_pos (by omega)] | rw [if_neg (by omega)])]
    go_enter Tryd.func33, Tryd.ntmps33
    go_wp2
    all_goals
      refine bodyPost_ret (by simp [results, Tryd.results33, go_sem]) rfl ⟨rfl, ?_⟩
      go_grown
  · rw [show rangeI ch = (0, 1, true) by unfold rangeI; repeat (first | rw [if_pos (by omega)] | rw [if_neg (by omega)])]
    go_enter Tryd.func33, Tryd.ntmps33
    go_wp2
    all_goals
      refine bodyPost_ret (by simp [results, Tryd.results33, go_sem]) rfl ⟨rfl, ?_⟩
      go_grown
  · rw [show rangeI ch = (-500000, 500000, true) by unfold rangeI; repeat (first | rw [if_pos (by omega)] | rw [if_neg (by omega)])]
    go_enter Tryd.func33, Tryd.ntmps33
    go_wp2
    all_goals
      refine bodyPost_ret (by simp [results, Tryd.results33, go_sem]) rfl ⟨rfl, ?_⟩
      go_grown
  · rw [show rangeI ch = (0, 0, false) by unfold rangeI; repeat (first | rw [if_pos (by omega)] | rw [if_neg (by omega)])]
    go_enter Tryd.func33, Tryd.ntmps33
    go_wp2
    all_goals
      refine bodyPost_ret (by simp [results, Tryd.results33, go_sem]) rfl ⟨rfl, ?_⟩
      go_grown
end Go.Proofs.YtiiomiekjlggfaaDoor
