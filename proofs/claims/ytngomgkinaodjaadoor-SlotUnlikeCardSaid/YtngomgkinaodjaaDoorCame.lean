/- What a walk is told of a slice of numbers, or of bools, that came in. No condition. -/
import Derived.Test.YtngomgkinaodjaaDoorRows
import Derived.Below
import Derived.Laws.Rows
namespace Go.Proofs.YtngomgkinaodjaaDoor
open Go.RowKit
def CameI (k : IntKind) (w : World) (a : Option Addr) (len cap : Nat) (zs : List Int) : Prop :=
  (a = none ∧ len = 0 ∧ cap = 0 ∧ zs = []) ∨
  ∃ x, a = some x ∧ len ≤ cap ∧ cap ≤ maxLen ∧ zs.length = cap ∧ (∀ i, i < zs.length → w.cell? (x.add i) = some (.int k (zs.getD i 0))) ∧ ∀ n ∈ zs, (Lit.int k n).wf = true
theorem CameI.at {k : IntKind} {w : World} {a : Option Addr} {len cap : Nat} {zs : List Int} (h : CameI k w a len cap zs) (i : Nat) (hi : i < len) :
    ∃ x, a = some x ∧ w.cell? (x.add i) = some (.int k (zs.getD i 0)) := by
  rcases h with ⟨_, rfl, _⟩ | ⟨x, rfl, h1, _, h3, h4, _⟩
  · omega
  · exact ⟨x, rfl, h4 i (by omega)⟩
def CameB (w : World) (a : Option Addr) (len cap : Nat) (B : Nat → Bool) : Prop :=
  (a = none ∧ len = 0 ∧ cap = 0) ∨
  ∃ x, a = some x ∧ len ≤ cap ∧ cap ≤ maxLen ∧ ∀ i, i < cap → w.cell? (x.add i) = some (.bool (B i))
theorem CameB.at {w : World} {a : Option Addr} {len cap : Nat} {B : Nat → Bool} (h : CameB w a len cap B) (i : Nat) (hi : i < len) :
    ∃ x, a = some x ∧ w.cell? (x.add i) = some (.bool (B i)) := by
  rcases h with ⟨_, rfl, _⟩ | ⟨x, rfl, h1, _, h3⟩
  · omega
  · exact ⟨x, rfl, h3 i (by omega)⟩
theorem below_cell {w wr : World} {p : Addr} {v : Value} (hb : Below w.heap.size w wr) (h : w.cell? p = some v) : wr.cell? p = some v :=
  (hb.cell (p := p) (block_lt_of_cell h)).trans h
end Go.Proofs.YtngomgkinaodjaaDoor
