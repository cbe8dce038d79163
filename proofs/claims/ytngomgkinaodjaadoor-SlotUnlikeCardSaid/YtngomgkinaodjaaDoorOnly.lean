/- That a call has changed one block alone, of all that was there. No condition. -/
import Derived.Test.YtngomgkinaodjaaDoorRows
import Derived.WalkKit
import Derived.ProofKit
import Derived.Below
import Derived.WalkSmall
import Derived.Laws.Rows
namespace Go.Proofs.YtngomgkinaodjaaDoor
open Go.RowKit
structure Only (B : Nat) (w w' : World) : Prop where
  os : w'.os = w.os
  tape : w'.tape = w.tape
  output : w'.output = w.output
  size : w.heap.size ≤ w'.heap.size
  block : ∀ k, k < w.heap.size → k ≠ B → w'.heap[k]? = w.heap[k]?
theorem Only.refl (B : Nat) (w : World) : Only B w w := ⟨rfl, rfl, rfl, Nat.le_refl _, fun _ _ _ => rfl⟩
theorem Only.trans {B : Nat} {a b c : World} (h : Only B a b) (g : Only B b c) : Only B a c :=
  ⟨g.os.trans h.os, g.tape.trans h.tape, g.output.trans h.output, Nat.le_trans h.size g.size, fun k hk hB => (g.block k (Nat.lt_of_lt_of_le hk h.size) hB).trans (h.block k hk hB)⟩
theorem Only.of_below (B : Nat) {w w' : World} (h : Below w.heap.size w w') : Only B w w' := ⟨h.os, h.tape, h.output, h.size, fun k hk _ => h.block k hk⟩
theorem Only.below {B b : Nat} {w w' : World} (h : Only B w w') (h1 : b ≤ B) (h2 : b ≤ w.heap.size) : Below b w w' :=
  ⟨h.os, h.tape, h.output, h.size, fun k hk => h.block k (Nat.lt_of_lt_of_le hk h2) (by omega)⟩
theorem Only.set (B o : Nat) (w : World) (v : Value) : Only B w (w.setCell ⟨B, o, none⟩ v) :=
  ⟨rfl, rfl, rfl, by simp, fun k _ hB => heap_setCell_other w ⟨B, o, none⟩ k v hB⟩
theorem Only.drewN (B : Nat) (w : World) (n : Nat) : Only B w (w.drewN n) := .of_below B (below_drewN (Below.refl _ _) n)
theorem Only.alloc (B : Nat) (w : World) (o : Obj) : Only B w (w.alloc o) := .of_below B ((Below.refl _ _).alloc (Nat.le_refl _) o)
theorem Only.cell {B : Nat} {w w' : World} (h : Only B w w') {b o : Nat} {v : Value} (hc : w.cell? ⟨b, o, none⟩ = some v) (hb : b ≠ B) : w'.cell? ⟨b, o, none⟩ = some v := by
  have hl := block_lt_of_cell hc
  have := h.block b hl hb
  unfold World.cell? at *
  simp only [this]
  exact hc
theorem Only.row {B : Nat} {w w' : World} (h : Only B w w') {b : Nat} {o : Obj} (hc : w.heap[b]? = some o) (hb : b ≠ B) : w'.heap[b]? = some o := by
  rw [h.block b (Array.getElem?_eq_some_iff.1 hc).1 hb]; exact hc
end Go.Proofs.YtngomgkinaodjaaDoor
