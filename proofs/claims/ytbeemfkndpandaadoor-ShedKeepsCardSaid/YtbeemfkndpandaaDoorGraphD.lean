/- The graph's functions do what the chapter says: plain definitions over seven bits, and the facts on them. No condition. -/
import Derived.Test.YtbeemfkndpandaaDoorRows
import Derived.WalkKit
import Derived.ProofKit
import Derived.Handy
import Derived.OpenShut
import Derived.Lib.Hide
import Derived.Below
import Derived.Deep.QuietTactic
import Derived.BigQuiet
import Derived.WalkSmall
namespace Go.Proofs.YtbeemfkndpandaaDoor
open Go.RowKit
theorem ret_i {a b : Int} (h : a = b) : Ending.returned (.int .i64 a) = .returned (.int .i64 b) := by rw [h]
theorem ret_o {a b : Bool} (h : a = b) : Ending.returned (.bool a) = .returned (.bool b) := by rw [h]
/-- A mask of seven bits, as a number. -/
def m7 (x : BitVec 7) : Int := (x.toNat : Int)
theorem m7_lo (x : BitVec 7) : 0 ≤ m7 x := by unfold m7; omega
theorem m7_hi (x : BitVec 7) : m7 x < 128 := by unfold m7; have := x.isLt; omega
theorem m7_big (x : BitVec 7) : (BitVec.ofInt 64 (m7 x)).toNat = x.toNat := by
  unfold m7
  rw [BitVec.ofInt_natCast, BitVec.toNat_ofNat]
  have := x.isLt
  exact Nat.mod_eq_of_lt (by omega)
theorem m7_and (x y : BitVec 7) : bits .and .i64 (m7 x) (m7 y) = m7 (x &&& y) := by
  show IntKind.i64.wrap ((BitVec.ofInt 64 (m7 x) &&& BitVec.ofInt 64 (m7 y)).toNat : Int) = _
  rw [BitVec.toNat_and, m7_big, m7_big, ← BitVec.toNat_and]
  have := (x &&& y).isLt
  exact IntWalk.i64_in _ (by omega)
theorem m7_or (x y : BitVec 7) : bits .or .i64 (m7 x) (m7 y) = m7 (x ||| y) := by
  show IntKind.i64.wrap ((BitVec.ofInt 64 (m7 x) ||| BitVec.ofInt 64 (m7 y)).toNat : Int) = _
  rw [BitVec.toNat_or, m7_big, m7_big, ← BitVec.toNat_or]
  have := (x ||| y).isLt
  exact IntWalk.i64_in _ (by omega)
theorem andNot_nat (a b : Nat) (ha : a < 128) (hb : b < 128) : a &&& (18446744073709551615 - b) = a &&& (127 - b) := by
  have e1 : 18446744073709551615 - b = 2 ^ 7 * 144115188075855871 + (127 - b) := by omega
  have e2 : a &&& (18446744073709551615 - b) = (a &&& (18446744073709551615 - b)) % 2 ^ 7 := by
    have : a &&& (18446744073709551615 - b) ≤ a := Nat.and_le_left
    exact (Nat.mod_eq_of_lt (by omega)).symm
  rw [e2, Nat.and_mod_two_pow, e1, Nat.mul_add_mod, Nat.mod_eq_of_lt (show a < 2 ^ 7 by omega), Nat.mod_eq_of_lt (show 127 - b < 2 ^ 7 by omega)]
theorem m7_andNot (x y : BitVec 7) : bits .andNot .i64 (m7 x) (m7 y) = m7 (x &&& ~~~y) := by
  show IntKind.i64.wrap ((BitVec.ofInt 64 (m7 x) &&& ~~~BitVec.ofInt 64 (m7 y)).toNat : Int) = _
  rw [BitVec.toNat_and, BitVec.toNat_not, m7_big, m7_big]
  have e : x.toNat &&& (2 ^ 64 - 1 - y.toNat) = (x &&& ~~~y).toNat := by
    rw [BitVec.toNat_and, BitVec.toNat_not]
    exact andNot_nat x.toNat y.toNat x.isLt y.isLt
  rw [e]
  have := (x &&& ~~~y).isLt
  exact IntWalk.i64_in _ (by omega)
theorem m7_none (x : BitVec 7) : (m7 x == 0) = decide (x = 0) := by
  unfold m7
  by_cases h : x = 0
  · subst h; rfl
  · have h' : x.toNat ≠ 0 := fun e => h (BitVec.eq_of_toNat_eq (by simpa using e))
    have e : ((x.toNat : Int) == 0) = false := by rw [beq_eq_false_iff_ne]; omega
    rw [e]; exact (decide_eq_false h).symm
theorem m7_inj {x y : BitVec 7} (h : m7 x = m7 y) : x = y := by
  unfold m7 at h
  exact BitVec.eq_of_toNat_eq (by omega)
theorem m7_eq (x y : BitVec 7) : (m7 x == m7 y) = decide (x = y) := by
  by_cases h : x = y
  · subst h; simp
  · rw [decide_eq_false h, beq_eq_false_iff_ne]; exact fun e => h (m7_inj e)
theorem and_two (n k : Nat) : n &&& 2 ^ k = (n.testBit k).toNat * 2 ^ k := by
  apply Nat.eq_of_testBit_eq
  intro i
  rw [Nat.testBit_and, Nat.testBit_two_pow]
  by_cases h : k = i
  · subst h
    cases hb : n.testBit k
    · simp
    · simp [Nat.testBit_two_pow_self]
  · cases hb : n.testBit k
    · simp [h]
    · simp [h]
/-- One bit of any number. -/
theorem big_and (a : Int) (k : Nat) (hk : k < 63) : bits .and .i64 a ((2 ^ k : Nat) : Int) = if (BitVec.ofInt 64 a).getLsbD k then ((2 ^ k : Nat) : Int) else 0 := by
  have e0 : (2 : Nat) ^ k < 2 ^ 63 := Nat.pow_lt_pow_right (by omega) hk
  show IntKind.i64.wrap ((BitVec.ofInt 64 a &&& BitVec.ofInt 64 ((2 ^ k : Nat) : Int)).toNat : Int) = _
  rw [BitVec.toNat_and, BitVec.ofInt_natCast, BitVec.toNat_ofNat, Nat.mod_eq_of_lt (show 2 ^ k < 2 ^ 64 by omega), and_two]
  show IntKind.i64.wrap ((((BitVec.ofInt 64 a).getLsbD k).toNat * 2 ^ k : Nat) : Int) = _
  generalize 2 ^ k = z at *
  cases (BitVec.ofInt 64 a).getLsbD k
  · simp; rfl
  · simp only [Bool.toNat_true, Nat.one_mul, if_true]
    exact IntWalk.i64_in _ (by omega)
theorem low7 (a : Int) (k : Nat) (hk : k < 7) : (BitVec.ofInt 64 a).getLsbD k = (BitVec.ofInt 7 a).getLsbD k := by
  have : BitVec.ofInt 7 a = (BitVec.ofInt 64 a).setWidth 7 := by
    apply BitVec.eq_of_toNat_eq
    rw [BitVec.toNat_setWidth, BitVec.toNat_ofInt, BitVec.toNat_ofInt]
    omega
  rw [this, BitVec.getLsbD_setWidth]
  simp [hk]
theorem has (a : Int) (k : Nat) (hk : k < 7) : (bits .and .i64 a ((2 ^ k : Nat) : Int) != 0) = (BitVec.ofInt 7 a).getLsbD k := by
  rw [big_and a k (by omega), low7 a k hk]
  cases (BitVec.ofInt 7 a).getLsbD k
  · rfl
  · have : (2 : Nat) ^ k ≠ 0 := by have := Nat.two_pow_pos k; omega
    simp only [if_true]
    rw [bne_iff_ne]; omega
/-- A contactor's two ends. -/
def eA : Nat → Nat
  | 0 => 0
  | 1 => 1
  | 2 => 2
  | 3 => 3
  | 4 => 4
  | 5 => 4
  | _ => 5
def eB : Nat → Nat
  | 0 => 4
  | 1 => 4
  | 2 => 5
  | 3 => 5
  | 4 => 5
  | 5 => 6
  | _ => 6
def both : Nat → BitVec 7
  | 0 => 17
  | 1 => 18
  | 2 => 36
  | 3 => 40
  | 4 => 48
  | 5 => 80
  | _ => 96
/-- One contactor more is looked at. -/
def stp (m r : BitVec 7) (c : Nat) : BitVec 7 := if m.getLsbD c && (r &&& both c != 0) then r ||| both c else r
def fold (m : BitVec 7) : Nat → BitVec 7 → BitVec 7
  | 0, r => r
  | k + 1, r => stp m (fold m k r) k
def pass (m : BitVec 7) : Nat → BitVec 7 → BitVec 7
  | 0, r => r
  | k + 1, r => fold m 7 (pass m k r)
def bitOf (n : Nat) : BitVec 7 := BitVec.ofNat 7 (2 ^ n)
/-- All that node n reaches. -/
def rch (m : BitVec 7) (n : Nat) : BitVec 7 := pass m 7 (bitOf n)
theorem stays7 : ∀ m : Fin 128, ∀ n : Fin 7, fold (BitVec.ofFin m) 7 (rch (BitVec.ofFin m) n) = rch (BitVec.ofFin m) n := by decide +kernel
theorem stays (m : BitVec 7) (n : Nat) (hn : n < 7) : fold m 7 (rch m n) = rch m n := stays7 m.toFin ⟨n, hn⟩
theorem pass_more (m : BitVec 7) (n : Nat) (hn : n < 7) (i : Nat) : pass m (7 + i) (bitOf n) = rch m n := by
  induction i with
  | zero => rfl
  | succ i ih => show fold m 7 (pass m (7 + i) (bitOf n)) = _; rw [ih]; exact stays m n hn
theorem pass_stop (m r : BitVec 7) (i : Nat) (h : fold m 7 (pass m i r) = pass m i r) (j : Nat) : pass m (i + j) r = pass m i r := by
  induction j with
  | zero => rfl
  | succ j ih => show fold m 7 (pass m (i + j) r) = _; rw [ih, h]
theorem rch_stop (m : BitVec 7) (n : Nat) (hn : n < 7) (i : Nat) (h : fold m 7 (pass m i (bitOf n)) = pass m i (bitOf n)) : pass m i (bitOf n) = rch m n := by
  by_cases hi : i ≤ 7
  · have := pass_stop m _ i h (7 - i)
    rw [show i + (7 - i) = 7 by omega] at this
    exact this.symm
  · have := pass_more m n hn (i - 7)
    rw [show 7 + (i - 7) = i by omega] at this
    exact this
theorem stp_up (m r : BitVec 7) (c : Nat) : r.toNat ≤ (stp m r c).toNat := by
  unfold stp
  split
  · rw [BitVec.toNat_or]; exact Nat.left_le_or
  · exact Nat.le_refl _
theorem fold_up (m : BitVec 7) (k : Nat) (r : BitVec 7) : r.toNat ≤ (fold m k r).toNat := by
  induction k with
  | zero => exact Nat.le_refl _
  | succ k ih => exact Nat.le_trans ih (stp_up _ _ _)
/-- The table of ends, as it lies in memory. -/
def ends14 : Array Value := #[.int .i64 0, .int .i64 4, .int .i64 1, .int .i64 4, .int .i64 2, .int .i64 5, .int .i64 3, .int .i64 5, .int .i64 4, .int .i64 5, .int .i64 4, .int .i64 6, .int .i64 5, .int .i64 6]
def Tab (w : World) : Prop := ∃ t fr, w.heap[1]? = some (.cells ends14 t fr)
theorem Tab.lt {w : World} (h : Tab w) : 1 < w.heap.size := by
  obtain ⟨t, fr, h⟩ := h
  exact (Array.getElem?_eq_some_iff.1 h).1
theorem Tab.below {w w' : World} (h : Tab w) (hb : Below w.heap.size w w') : Tab w' := by
  have hl := h.lt
  obtain ⟨t, fr, h⟩ := h
  exact ⟨t, fr, by rw [hb.block _ hl]; exact h⟩
theorem Tab.cells {w : World} (h : Tab w) (k : Nat) : w.cell? ⟨1, k, none⟩ = ends14[k]? := by
  obtain ⟨t, fr, h⟩ := h
  simp [World.cell?, h]
end Go.Proofs.YtbeemfkndpandaaDoor
