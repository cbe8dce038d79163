/- What the document's own answers on joined sources, fed buses and groups are: the same plain definitions. No condition. -/
import Derived.Test.YtbeemfkndpandaaDoorGraphR
namespace Go.Proofs.YtbeemfkndpandaaDoor
open Go.RowKit
theorem bitAt (x : BitVec 7) (i : Nat) : bits .and .i64 (m7 x / 2 ^ i) 1 = ((if x.getLsbD i then 1 else 0 : Nat) : Int) := by
  have h : bits .and .i64 (m7 x / 2 ^ i) 1 = if (BitVec.ofInt 64 (m7 x / 2 ^ i)).getLsbD 0 then 1 else 0 := big_and _ 0 (by omega)
  rw [h]
  have e : (BitVec.ofInt 64 (m7 x / 2 ^ i)).getLsbD 0 = x.getLsbD i := by
    have e1 : m7 x / 2 ^ i = ((x.toNat / 2 ^ i : Nat) : Int) := by
      unfold m7
      rw [Int.natCast_ediv, Int.natCast_pow]; rfl
    rw [e1, BitVec.ofInt_natCast]
    show Nat.testBit _ 0 = Nat.testBit _ i
    have h1 : x.toNat / 2 ^ i ≤ x.toNat := Nat.div_le_self _ _
    have h2 := x.isLt
    rw [BitVec.toNat_ofNat, Nat.mod_eq_of_lt (by omega), Nat.testBit_eq_decide_div_mod_eq, Nat.testBit_eq_decide_div_mod_eq, Nat.pow_zero, Nat.div_one]
  rw [e]
  cases x.getLsbD i <;> rfl
def popF (x : BitVec 7) : Nat → Nat
  | 0 => 0
  | i + 1 => popF x i + (if x.getLsbD i then 1 else 0)
theorem popF_le (x : BitVec 7) (i : Nat) : popF x i ≤ i := by
  induction i with
  | zero => exact Nat.le_refl _
  | succ i ih => show popF x i + (if x.getLsbD i then 1 else 0) ≤ i + 1; split <;> omega
/-- How many bits are set. -/
def pop (x : BitVec 7) : Nat := popF x 32
set_option maxRecDepth 100000 in
set_option maxHeartbeats 4000000 in
theorem bitsR (x : BitVec 7) (w : World) :
    Calls Tryd.prog 54 #[.int .i64 (m7 x)] w fun e w' => e = .returned (.int .i64 (pop x)) ∧ w = w' := by
  go_enter Tryd.func54, Tryd.ntmps54
  go_wp2_with fail
  go_loopw [3, 4] (fun p c wr => ∃ i : Nat, i ≤ 32 ∧ c = .int .i64 i ∧ p = .int .i64 (popF x i) ∧ w = wr) (fun _ c _ => 32 - (intOf c).toNat)
  case atStart => exact ⟨0, by omega, rfl, rfl, rfl⟩
  case round =>
    obtain ⟨i, hi, rfl, rfl, rfl⟩ := hrel
    by_cases h7 : i = 32
    · subst h7
      clear hi
      go_wp2_with fail
      go_ret
      exact ⟨rfl, rfl⟩
    · have e1 := bitAt x i
      have hl := popF_le x i
      have e2 : wrap64 ((popF x i : Int) + ((if x.getLsbD i then 1 else 0 : Nat) : Int)) = (popF x (i + 1) : Int) := by
        have hp : popF x (i + 1) = popF x i + (if x.getLsbD i then 1 else 0) := rfl
        have hb : (if x.getLsbD i then 1 else 0) ≤ 1 := by split <;> omega
        rw [hp, Int.natCast_add]
        generalize (if x.getLsbD i then 1 else 0) = b at hb
        exact IntWalk.wrap64_in ((popF x i : Int) + (b : Int)) (by omega)
      generalize (if x.getLsbD i then 1 else 0) = b at e1 e2
      have E2 := Lib.hid e2
      clear e2
      go_wp2_with fail
      go_roundw
      case rel => exact ⟨i + 1, by omega, by go_num, by rw [E2.out], trivial⟩
      case measure => simp [intOf]; omega
def jndRF (m : BitVec 7) : Nat → Bool
  | 0 => false
  | k + 1 => jndRF m k || decide (1 < pop (rch m k &&& srcs))
theorem jndR_up (m : BitVec 7) (k j : Nat) (h : jndRF m k = true) : jndRF m (k + j) = true := by
  induction j with
  | zero => exact h
  | succ j ih => show (jndRF m (k + j) || _) = true; rw [ih]; rfl
theorem jndR7 : ∀ m : Fin 128, jndRF (BitVec.ofFin m : BitVec 7) 4 = jnd (BitVec.ofFin m : BitVec 7) := by decide +kernel
theorem jndR (m : BitVec 7) : jndRF m 4 = jnd m := jndR7 m.toFin
theorem jndR_of (m : BitVec 7) (k : Nat) (hk : k < 4) (h : 1 < pop (rch m k &&& srcs)) : jnd m = true := by
  have h1 : jndRF m (k + 1) = true := by show (jndRF m k || decide _) = true; rw [decide_eq_true h]; simp
  have := jndR_up m (k + 1) (3 - k) h1
  rwa [show k + 1 + (3 - k) = 4 by omega, jndR] at this
theorem none7 : ∀ j : Fin 128, pop (BitVec.ofFin j : BitVec 7) ≠ 1 → fdsF (BitVec.ofFin j : BitVec 7) 4 = -1 := by decide +kernel
theorem fdsNone (j : BitVec 7) (h : pop j ≠ 1) : fdsF j 4 = -1 := none7 j.toFin h
theorem feedsRBad (a b : Int) (hb : b < 4 ∨ 6 < b) (w : World) :
    Calls Tryd.prog 41 #[.int .i64 a, .int .i64 b] w fun e w' => e = .returned (.int .i64 (-1)) ∧ w = w' := by
  rcases hb with h | h
  all_goals
    go_enter Tryd.func41, Tryd.ntmps41
    go_wp2_with fail
    go_ret
    exact ⟨rfl, rfl⟩
set_option maxRecDepth 100000 in
set_option maxHeartbeats 4000000 in
theorem feedsR (a : Int) (m : BitVec 7) (hm : BitVec.ofInt 7 a = m) (b : Nat) (hb : 4 ≤ b) (hb7 : b < 7) (w : World) :
    Calls Tryd.prog 41 #[.int .i64 a, .int .i64 b] w fun e w' => e = .returned (.int .i64 (fds m b)) ∧ w = w' := by
  have hf : fds m b = fdsF (rch m b &&& srcs) 4 := by unfold fds; rw [if_neg (by omega)]
  have HF := Lib.hid hf
  have KR := Lib.hid fun w => reachR a m hm b hb7 w
  clear hm hf
  have e1 := and15 (rch m b)
  generalize rch m b = r at *
  by_cases hp : pop (r &&& srcs) = 1
  · have e4 : ((pop (r &&& srcs) : Int) != 1) = false := by rw [hp]; rfl
    clear hp
    go_enter Tryd.func41, Tryd.ntmps41
    go_wp2_with fail
    refine (KR.out _).mono ?_
    rintro e w1 ⟨rfl, rfl⟩
    go_wp2_with fail
    refine (bitsR _ _).mono ?_
    rintro e w1 ⟨rfl, rfl⟩
    go_wp2_with fail
    go_loopw [6] (fun c wr => ∃ k : Nat, k ≤ 4 ∧ c = .int .i64 k ∧ Hid (fdsF (r &&& srcs) k = -1) ∧ w = wr) (fun c _ => 4 - (intOf c).toNat)
    case atStart => exact ⟨0, by omega, rfl, Lib.hid rfl, rfl⟩
    case round =>
      obtain ⟨k, hk, rfl, hj, rfl⟩ := hrel
      by_cases h4 : k = 4
      · subst h4
        clear hk
        go_wp2_with fail
        go_ret
        exact ⟨ret_i (HF.out.trans hj.out).symm, rfl⟩
      · have e2 := shl7 k (by omega)
        have e3 := m7_eq (r &&& srcs) (bitOf k)
        by_cases hc : r &&& srcs = bitOf k
        · rw [decide_eq_true hc] at e3
          have HC := Lib.hid hc
          clear hc
          go_wp2_with fail
          go_ret
          exact ⟨ret_i (HF.out.trans (fdsF_hit _ k (by omega) hj.out HC.out)).symm, rfl⟩
        · rw [decide_eq_false hc] at e3
          have HC := Lib.hid hc
          clear hc
          go_wp2_with fail
          go_roundw
          case rel => exact ⟨k + 1, by omega, by go_num, Lib.hid (fdsF_miss _ k hj.out HC.out), trivial⟩
          case measure => simp [intOf]; omega
  · have HN := Lib.hid (HF.out.trans (fdsNone _ hp))
    have e4 : ((pop (r &&& srcs) : Int) != 1) = true := by rw [bne_iff_ne]; omega
    clear hp
    go_enter Tryd.func41, Tryd.ntmps41
    go_wp2_with fail
    refine (KR.out _).mono ?_
    rintro e w1 ⟨rfl, rfl⟩
    go_wp2_with fail
    refine (bitsR _ _).mono ?_
    rintro e w1 ⟨rfl, rfl⟩
    go_wp2_with fail
    go_ret
    exact ⟨ret_i HN.out.symm, rfl⟩
def lowOf (k : Nat) : BitVec 7 := BitVec.ofNat 7 (2 ^ k - 1)
theorem low7' : ∀ k : Fin 7, m7 (bitOf k) - 1 = m7 (lowOf k) := by decide +kernel
theorem lowC (k : Nat) (hk : k < 7) : wrap64 (m7 (bitOf k) - 1) = m7 (lowOf k) := by
  rw [show m7 (bitOf k) - 1 = m7 (lowOf k) from low7' ⟨k, hk⟩]
  have h1 := m7_lo (lowOf k)
  have h2 := m7_hi (lowOf k)
  exact IntWalk.wrap64_in _ (by omega)
def prtR (m : BitVec 7) : Nat → Nat
  | 0 => 0
  | k + 1 => prtR m k + (if rch m k &&& lowOf k = 0 then 1 else 0)
theorem prtR_le (m : BitVec 7) (k : Nat) : prtR m k ≤ k := by
  induction k with
  | zero => exact Nat.le_refl _
  | succ k ih => show prtR m k + (if rch m k &&& lowOf k = 0 then 1 else 0) ≤ k + 1; split <;> omega
theorem prtR_yes (m : BitVec 7) (k : Nat) (h : rch m k &&& lowOf k = 0) : prtR m (k + 1) = prtR m k + 1 := by
  show prtR m k + (if rch m k &&& lowOf k = 0 then 1 else 0) = _
  rw [if_pos h]
theorem prtR_no (m : BitVec 7) (k : Nat) (h : ¬ rch m k &&& lowOf k = 0) : prtR m (k + 1) = prtR m k := by
  show prtR m k + (if rch m k &&& lowOf k = 0 then 1 else 0) = _
  rw [if_neg h]; rfl
theorem prtR7 : ∀ m : Fin 128, (prtR (BitVec.ofFin m : BitVec 7) 7 : Int) = prt (BitVec.ofFin m : BitVec 7) := by decide +kernel
theorem prtRC (m : BitVec 7) : (prtR m 7 : Int) = prt m := prtR7 m.toFin
end Go.Proofs.YtbeemfkndpandaaDoor
