/- What the graph's other functions answer: whether two sources are joined, who feeds a bus, how many groups there are. Conditions: the table of ends lies in memory as the program's text lays it. -/
import Derived.Test.YtbeemfkndpandaaDoorGraphC
import Derived.Test.YtbeemfkndpandaaDoorLex
namespace Go.Proofs.YtbeemfkndpandaaDoor
open Go.RowKit
theorem reach_tab {w : World} (h : Tab w) (d : World) : Tab (reach w.heap.size w d) := h.below (reach_below _ _ _)
/-- The four sources. -/
def srcs : BitVec 7 := 15
/-- Two sources among the first k nodes are joined. -/
def jndB (m : BitVec 7) : Nat → Bool
  | 0 => false
  | k + 1 => jndB m k || (rch m k &&& srcs != bitOf k)
def jnd (m : BitVec 7) : Bool := jndB m 4
theorem jndB_up (m : BitVec 7) (k j : Nat) (h : jndB m k = true) : jndB m (k + j) = true := by
  induction j with
  | zero => exact h
  | succ j ih => show (jndB m (k + j) || _) = true; rw [ih]; rfl
theorem jnd_of (m : BitVec 7) (k : Nat) (hk : k < 4) (h : (rch m k &&& srcs != bitOf k) = true) : jnd m = true := by
  have h1 : jndB m (k + 1) = true := by show (jndB m k || _) = true; rw [h]; simp
  have := jndB_up m (k + 1) (3 - k) h1
  rwa [show k + 1 + (3 - k) = 4 by omega] at this
theorem and15 (r : BitVec 7) : bits .and .i64 (m7 r) 15 = m7 (r &&& srcs) := by
  have := m7_and r srcs
  rwa [show m7 srcs = 15 by decide] at this
theorem m7_ne (x y : BitVec 7) : (m7 x != m7 y) = (x != y) := by
  rw [bne, m7_eq, bne]; rfl
/-- Who of the first k sources is joined alone. -/
def fdsF (j : BitVec 7) : Nat → Int
  | 0 => -1
  | k + 1 => if fdsF j k = -1 then (if j = bitOf k then (k : Int) else -1) else fdsF j k
def fds (m : BitVec 7) (b : Nat) : Int := if b < 4 ∨ 6 < b then -1 else fdsF (rch m b &&& srcs) 4
theorem fdsF_up (j : BitVec 7) (k i : Nat) (h : fdsF j k ≠ -1) : fdsF j (k + i) = fdsF j k := by
  induction i with
  | zero => rfl
  | succ i ih => show (if fdsF j (k + i) = -1 then _ else fdsF j (k + i)) = _; rw [ih, if_neg h]
theorem fdsF_hit (j : BitVec 7) (k : Nat) (hk : k < 4) (h0 : fdsF j k = -1) (h : j = bitOf k) : fdsF j 4 = k := by
  have h1 : fdsF j (k + 1) = k := by show (if fdsF j k = -1 then (if j = bitOf k then (k : Int) else -1) else fdsF j k) = _; rw [if_pos h0, if_pos h]
  have := fdsF_up j (k + 1) (3 - k) (by rw [h1]; omega)
  rw [show k + 1 + (3 - k) = 4 by omega] at this
  rw [this, h1]
theorem fdsF_miss (j : BitVec 7) (k : Nat) (h0 : fdsF j k = -1) (h : ¬ j = bitOf k) : fdsF j (k + 1) = -1 := by
  show (if fdsF j k = -1 then (if j = bitOf k then (k : Int) else -1) else fdsF j k) = _
  rw [if_pos h0, if_neg h]
set_option maxRecDepth 100000 in
set_option maxHeartbeats 4000000 in
theorem feedsLow (a b : Int) (hb : b < 4) (w : World) :
    Calls Tryd.prog 27 #[.int .i64 a, .int .i64 b] w fun e w' => e = .returned (.int .i64 (-1)) ∧ Below w.heap.size w w' := by
  go_enter Tryd.func27, Tryd.ntmps27
  go_wp2_with fail
  go_ret
  exact ⟨rfl, Below.refl _ _⟩
set_option maxRecDepth 100000 in
set_option maxHeartbeats 4000000 in
theorem feedsOf (a b : Int) (j : BitVec 7) (hb : 4 ≤ b) (w : World) 
    (hR : ∀ w : World, Tab w → Calls Tryd.prog 43 #[.int .i64 a, .int .i64 b] w fun e w' => e = .returned (.int .i64 (m7 j)) ∧ Below w.heap.size w w') (hT : Tab w) :
    Calls Tryd.prog 27 #[.int .i64 a, .int .i64 b] w fun e w' => e = .returned (.int .i64 (fdsF (j &&& srcs) 4)) ∧ Below w.heap.size w w' := by
  have HT := Lib.hid hT
  have HR := Lib.hid hR
  clear hT hR
  have e1 := and15 j
  go_enter Tryd.func27, Tryd.ntmps27
  go_wp2_with fail
  refine (HR.out _ HT.out).mono ?_
  rintro e w1 ⟨rfl, hb1⟩
  have HW := Lib.hid hb1
  clear hb1
  go_wp2_with fail
  go_loopw [13] (fun c wr => ∃ k : Nat, k ≤ 4 ∧ c = .int .i64 k ∧ Hid (fdsF (j &&& srcs) k = -1) ∧ Below w.heap.size w wr) (fun c _ => 4 - (intOf c).toNat)
  case atStart => exact ⟨0, by omega, rfl, Lib.hid rfl, HW.out⟩
  case round =>
    obtain ⟨k, hk, rfl, hj, hb⟩ := hrel
    have HV := Lib.hid hb
    clear hb
    by_cases h4 : k = 4
    · subst h4
      clear hk
      go_wp2_with fail
      go_ret
      exact ⟨ret_i hj.out.symm, HV.out⟩
    · have e2 := shl7 k (by omega)
      have e3 := m7_eq (j &&& srcs) (bitOf k)
      by_cases hc : j &&& srcs = bitOf k
      · rw [decide_eq_true hc] at e3
        have HC := Lib.hid hc
        clear hc
        go_wp2_with fail
        go_ret
        exact ⟨ret_i (fdsF_hit _ k (by omega) hj.out HC.out).symm, HV.out⟩
      · rw [decide_eq_false hc] at e3
        have HC := Lib.hid hc
        clear hc
        go_wp2_with fail
        go_roundw
        case rel => exact ⟨k + 1, by omega, by go_num, Lib.hid (fdsF_miss _ k hj.out HC.out), HV.out⟩
        case measure => simp [intOf]; omega
theorem feedsC (a : Int) (m : BitVec 7) (hm : BitVec.ofInt 7 a = m) (b : Nat) (hb : 4 ≤ b) (hb7 : b < 7) (w : World) (hT : Tab w) :
    Calls Tryd.prog 27 #[.int .i64 a, .int .i64 b] w fun e w' => e = .returned (.int .i64 (fds m b)) ∧ Below w.heap.size w w' := by
  have := feedsOf a b (rch m b) (by omega) w (fun w hT => reachC a m hm b hb7 w hT) hT
  unfold fds
  rwa [if_neg (by omega)]
theorem feedsHigh (a b : Int) (hb : 7 ≤ b) (w : World) (hT : Tab w) :
    Calls Tryd.prog 27 #[.int .i64 a, .int .i64 b] w fun e w' => e = .returned (.int .i64 (-1)) ∧ Below w.heap.size w w' := by
  have := feedsOf a b 0 (by omega) w (fun w _ => reachBad a b (Or.inr hb) w) hT
  rwa [show fdsF ((0 : BitVec 7) &&& srcs) 4 = -1 by decide] at this
/-- How many groups the first k nodes show, and who is in them. -/
def prtF (m : BitVec 7) : Nat → Nat × BitVec 7
  | 0 => (0, 0)
  | k + 1 => if (prtF m k).2 &&& bitOf k = 0 then ((prtF m k).1 + 1, (prtF m k).2 ||| rch m k) else prtF m k
def prt (m : BitVec 7) : Int := (prtF m 7).1
theorem prtF_yes (m : BitVec 7) (k : Nat) (h : (prtF m k).2 &&& bitOf k = 0) : prtF m (k + 1) = ((prtF m k).1 + 1, (prtF m k).2 ||| rch m k) := by
  show (if (prtF m k).2 &&& bitOf k = 0 then ((prtF m k).1 + 1, (prtF m k).2 ||| rch m k) else prtF m k) = _
  rw [if_pos h]
theorem prtF_no (m : BitVec 7) (k : Nat) (h : ¬ (prtF m k).2 &&& bitOf k = 0) : prtF m (k + 1) = prtF m k := by
  show (if (prtF m k).2 &&& bitOf k = 0 then ((prtF m k).1 + 1, (prtF m k).2 ||| rch m k) else prtF m k) = _
  rw [if_neg h]
end Go.Proofs.YtbeemfkndpandaaDoor
