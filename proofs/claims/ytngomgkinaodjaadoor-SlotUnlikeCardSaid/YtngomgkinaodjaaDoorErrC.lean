/- What an error is as plain data. Conditions: the seven errors lie apart. -/
import Derived.Test.YtngomgkinaodjaaDoorErs
import Derived.Test.YtngomgkinaodjaaDoorReach
import Derived.Test.YtngomgkinaodjaaDoorTail
import Derived.Test.YtngomgkinaodjaaDoorBase
import Derived.Test.YtngomgkinaodjaaDoorOnly
import Derived.Test.YtngomgkinaodjaaDoorCame
import Derived.Handy
import Derived.Lib.Hide
import Derived.BigQuiet
import Derived.Deep.DeepCutAuto
namespace Go.Proofs.YtngomgkinaodjaaDoor
open Go.RowKit
set_option linter.unusedVariables false
set_option maxRecDepth 20000
theorem erComp : (Tryd.prog.info? 97).map (·.comparable) = some true := by kernel_rfl
theorem erSize : (Tryd.prog.info? 114).map (·.size) = some 1 := by kernel_rfl
theorem alikeC {E : Nat → Addr} {w : World} (h : Ers E w) (i j : Nat) (hi : i < 7) (hj : j < 7) :
    Calls Tryd.prog 55 #[.iface 97 (.pointer (some (E i))), .iface 97 (.pointer (some (E j)))] w fun e w' => e = .returned (.bool (decide (i = j))) ∧ w = w' := by
  obtain ⟨i0, hi0, hcmp⟩ := Option.map_eq_some_iff.1 erComp
  obtain ⟨j0, hj0, hjs⟩ := Option.map_eq_some_iff.1 erSize
  obtain ⟨ci, ti, ri⟩ := h.row i hi
  obtain ⟨cj, tj, rj⟩ := h.row j hj
  have HI := Lib.hid h.inj
  clear h
  go_enter Tryd.func55, Tryd.ntmps55
  go_wp2_with fail
  by_cases hij : i = j
  · subst hij
    rw [run_eql_iface_ptr_same w (E i) Tryd.underlying27 Tryd.underlying97 hi0 hcmp hj0]
    go_wp2_with fail
    go_ret
    exact ⟨by simp, rfl⟩
  · rw [run_eql_iface_ptr_other w Tryd.underlying27 Tryd.underlying97 hi0 hcmp hj0 (by omega) (fun he => hij (HI.out i j hi hj he)) ri rj]
    go_wp2_with fail
    go_ret
    exact ⟨by simp [hij], rfl⟩
def errA (E : Nat → Addr) : Array Value := #[errV (E 0), errV (E 1), errV (E 2), errV (E 3), errV (E 4), errV (E 5), errV (E 6)]
theorem errA_at (E : Nat → Addr) (i : Nat) (hi : i < 7) : (errA E)[i]? = some (errV (E i)) := by
  match i, hi with
  | 0, _ | 1, _ | 2, _ | 3, _ | 4, _ | 5, _ | 6, _ => rfl
theorem sentinelsC {E : Nat → Addr} {w : World} (h : Ers E w) :
    Calls Tryd.prog 54 #[] w fun e w' => e = .returned (.slice (some ⟨w.heap.size, 0, none⟩) 7 7) ∧ Bx w w' (errA E) 27 := by
  have g0 := h.g0
  have g1 := h.g1
  have g2 := h.g2
  have g3 := h.g3
  have g4 := h.g4
  have g5 := h.g5
  have g6 := h.g6
  unfold errV at g0 g1 g2 g3 g4 g5 g6
  clear h
  go_enter Tryd.func54, Tryd.ntmps54
  go_wp2_with fail
  go_ret
  exact ⟨rfl, Bx.new w (errA E) 27⟩
set_option maxHeartbeats 4000000 in
theorem sentinelC {E : Nat → Addr} {w : World} (h : Ers E w) (k : Nat) (hk : k < 7) :
    Calls Tryd.prog 52 #[.iface 97 (.pointer (some (E k)))] w fun e w' => e = .returned (.int .i64 (101 + (k : Int))) ∧ Below w.heap.size w w' := by
  have H := Lib.hid h
  clear h
  go_enter Tryd.func52, Tryd.ntmps52
  go_wp2_with fail
  refine (sentinelsC H.out).mono ?_
  rintro e w1 ⟨rfl, hb⟩
  have B1 := Lib.hid hb
  have H1 := Lib.hid (H.out.below hb.lo)
  clear hb
  go_wp2_with fail
  go_loopw [4] (fun s wr => ∃ i : Nat, i ≤ k ∧ s = .int .i64 i ∧ wr = w1) (fun s _ => 7 - (intOf s).toNat)
  case atStart => exact ⟨0, by omega, rfl, rfl⟩
  case round =>
    obtain ⟨i, hi, rfl, rfl⟩ := hrel
    have ci : wr.cell? ((⟨w.heap.size, 0, none⟩ : Addr).add i) = some (.iface 97 (.pointer (some (E i)))) := by
      have ea : (⟨w.heap.size, 0, none⟩ : Addr).add i = ⟨w.heap.size, i, none⟩ := by simp [Addr.add]; omega
      rw [ea]
      exact B1.out.cell i (errA_at E i (by omega))
    have ci2 : wr.cell? ⟨w.heap.size, i, none⟩ = some (.iface 97 (.pointer (some (E i)))) := B1.out.cell i (errA_at E i (by omega))
    have i1 : (i : Int) < 7 := by omega
    go_wp2_with fail
    refine (alikeC H1.out k i hk (by omega)).mono ?_
    rintro e w2 ⟨rfl, rfl⟩
    by_cases hki : k = i
    · subst hki
      rw [decide_eq_true rfl]
      go_wp2_with fail
      go_returns
      exact ⟨rfl, B1.out.lo⟩
    · rw [decide_eq_false hki]
      go_wp2_with fail
      go_roundw
      case rel => exact ⟨i + 1, by omega, by go_num, trivial⟩
      case measure => simp [intOf]; omega
end Go.Proofs.YtngomgkinaodjaaDoor
