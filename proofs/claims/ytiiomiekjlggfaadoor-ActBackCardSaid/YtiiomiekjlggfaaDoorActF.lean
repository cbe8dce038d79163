/- What a frame puts out, of any frame; the document's, too. Conditions: the seven errors lie apart. -/
import Derived.Test.YtiiomiekjlggfaaDoorActE
import Derived.Test.YtiiomiekjlggfaaDoorMix
import Derived.Test.YtiiomiekjlggfaaDoorSenA
namespace Go.Proofs.YtiiomiekjlggfaaDoor
open Go Go.RowKit
set_option linter.unusedVariables false
set_option maxRecDepth 20000
theorem or_i64 (m x : Int) (hm : 0 ≤ m) (hm2 : m < 256) (hx : 0 ≤ x) (hx2 : x < 256) : bits .or .i64 (m * 256) x = m * 256 + x := by
  obtain ⟨a, rfl⟩ := Int.eq_ofNat_of_zero_le hm
  obtain ⟨b, rfl⟩ := Int.eq_ofNat_of_zero_le hx
  have e1 : (BitVec.ofInt 64 ((a : Int) * 256)).toNat = a * 256 := by rw [BitVec.toNat_ofInt]; omega
  have e2 : (BitVec.ofInt 64 (b : Int)).toNat = b := by rw [BitVec.toNat_ofInt]; omega
  show IntKind.i64.wrap ((BitVec.ofInt 64 ((a : Int) * 256) ||| BitVec.ofInt 64 (b : Int)).toNat : Nat) = _
  rw [BitVec.toNat_or, e1, e2, or_nat a b (by omega), IntKind.wrap_i64]
  omega
/-- What a frame's answer is: its code; what is put out. -/
def rdC (id : Int) (n : Nat) (f : Nat → Int) : Int := if id = 96 then (if n < 7 then 103 else if 7 < n then 102 else if goodO (f 0) (f 1 * 256 + f 2) (f 3) (f 4) (f 5 * 256 + f 6) = true then 0 else 101) else 101
def outV (a b c d e : Int) : Value := .agg #[.int .i64 a, .int .i64 b, .int .i64 c, .int .i64 d, .int .i64 e]
def rdV (id : Int) (n : Nat) (f : Nat → Int) : Value := if rdC id n f = 0 then outV (f 0) (f 1 * 256 + f 2) (f 3) (f 4) (f 5 * 256 + f 6) else outV 0 0 0 0 0
def errOf (E : Nat → Addr) (c : Int) : Value := if c = 0 then .nilIface else .iface 102 (.pointer (some (E (c - 101).toNat)))
theorem longC (id sq : Int) (a : Option Addr) (n cap k : Nat) (w : World) :
    Calls Tryd.prog 42 #[.agg #[.int .u8 id, .int .u8 sq, .slice a n cap], .int .i64 (k : Int)] w fun r w' => r = .returned (.int .i64 (if n < k then 103 else if k < n then 102 else 0)) ∧ Below w.heap.size w w' := by
  by_cases h1 : n < k
  · have g1 : decide ((n : Int) < (k : Int)) = true := decide_eq_true (by omega)
    rw [if_pos h1]
    go_enter Tryd.func42, Tryd.ntmps42
    go_upto_region 1 with fail
    have B0 := Lib.hid (Bx.new w #[.int .u8 id, .int .u8 sq, .slice a n cap] 24)
    generalize World.alloc w _ = W at *
    have x2 : W.cell? ⟨w.heap.size, 2, none⟩ = some (.slice a n cap) := B0.out.cell 2 rfl
    go_wp2_with fail
    go_returns
    exact ⟨rfl, B0.out.lo⟩
  · have g1 : decide ((n : Int) < (k : Int)) = false := decide_eq_false (by omega)
    rw [if_neg h1]
    by_cases h2 : k < n
    · have g2 : decide ((k : Int) < (n : Int)) = true := decide_eq_true (by omega)
      rw [if_pos h2]
      go_enter Tryd.func42, Tryd.ntmps42
      go_upto_region 1 with fail
      have B0 := Lib.hid (Bx.new w #[.int .u8 id, .int .u8 sq, .slice a n cap] 24)
      generalize World.alloc w _ = W at *
      have x2 : W.cell? ⟨w.heap.size, 2, none⟩ = some (.slice a n cap) := B0.out.cell 2 rfl
      go_wp2_with fail
      go_returns
      exact ⟨rfl, B0.out.lo⟩
    · have g2 : decide ((k : Int) < (n : Int)) = false := decide_eq_false (by omega)
      rw [if_neg h2]
      go_enter Tryd.func42, Tryd.ntmps42
      go_upto_region 1 with fail
      have B0 := Lib.hid (Bx.new w #[.int .u8 id, .int .u8 sq, .slice a n cap] 24)
      generalize World.alloc w _ = W at *
      have x2 : W.cell? ⟨w.heap.size, 2, none⟩ = some (.slice a n cap) := B0.out.cell 2 rfl
      go_wp2_with fail
      go_returns
      exact ⟨rfl, B0.out.lo⟩
end Go.Proofs.YtiiomiekjlggfaaDoor
