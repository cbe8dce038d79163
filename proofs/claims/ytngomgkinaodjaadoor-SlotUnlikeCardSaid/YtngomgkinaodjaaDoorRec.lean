/- A record's bytes, by plain definitions. Conditions: none. -/
import Derived.Test.YtngomgkinaodjaaDoorCrcQ
import Derived.Test.YtngomgkinaodjaaDoorByt
namespace Go.Proofs.YtngomgkinaodjaaDoor
open Go Go.RowKit
set_option linter.unusedVariables false
/-- A number's last bytes, the greatest first. -/
def beL : Nat → Int → List Int
  | 0, _ => []
  | k + 1, n => n / 2 ^ (8 * k) % 256 :: beL k n
theorem beL_len (k : Nat) (n : Int) : (beL k n).length = k := by
  induction k with
  | zero => rfl
  | succ k ih => simp [beL, ih]
theorem beL_get (k : Nat) (n : Int) (j : Nat) (h : j < k) : (beL k n)[j]? = some (n / 2 ^ (8 * (k - 1 - j)) % 256) := by
  induction k generalizing j with
  | zero => omega
  | succ k ih =>
    cases j with
    | zero => simp [beL]
    | succ j =>
      show (beL k n)[j]? = _
      rw [ih j (by omega)]
      rw [show k + 1 - 1 - (j + 1) = k - 1 - j by omega]
theorem beL_take (k : Nat) (n : Int) (j : Nat) (h : j < k) : (beL k n).take (j + 1) = (beL k n).take j ++ [n / 2 ^ (8 * (k - 1 - j)) % 256] := by
  rw [List.take_add_one, beL_get k n j h]
  rfl
def u8s (l : List Int) : List Value := l.map fun x => .int .u8 x
theorem u8s_app (a b : List Int) : u8s (a ++ b) = u8s a ++ u8s b := by unfold u8s; simp
/-- The record's bytes but the sum's. -/
def recI (seq mode locks a b c d : Int) : List Int := [165] ++ beL 4 seq ++ [mode % 256] ++ beL 4 locks ++ beL 8 a ++ beL 8 b ++ beL 8 c ++ beL 8 d
end Go.Proofs.YtngomgkinaodjaaDoor
